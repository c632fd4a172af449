/-
  Plain facts on sealed blocks: each byte, the stamps and the payload of a sealed block, and what Open answers of one.
-/
import Derived.Test.YtgnedbagelhcbaaJa
namespace Go.Proofs.Ytgnedbagelhcbaa.Sl
open Go.ChangeShapes Go.WideShapes Go.ChangeAt Go.RowKit
set_option linter.unusedVariables false
set_option linter.unusedSimpArgs false
set_option maxRecDepth 20000
theorem splice_getD (l m : List Int) (o j : Nat) (h : o + m.length ≤ l.length) : (splice l o m).getD j 0 = if j < o then l.getD j 0 else if j < o + m.length then m.getD (j - o) 0 else l.getD j 0 := by
  unfold splice
  simp only [List.getD]
  have l1 : (l.take o).length = o := by rw [List.length_take]; omega
  by_cases h1 : j < o
  · rw [List.getElem?_append_left (by omega), List.getElem?_take, if_pos h1, if_pos h1]
  · rw [List.getElem?_append_right (by omega), l1, if_neg h1]
    by_cases h2 : j < o + m.length
    · rw [List.getElem?_append_left (by omega), if_pos h2]
    · rw [List.getElem?_append_right (by omega), List.getElem?_drop, if_neg h2]
      rw [show o + m.length + (j - o - m.length) = j by omega]
def sealB (v : Int) (p : List Int) (j : Nat) : Int := if j % 64 < 56 then p.getD (56 * (j / 64) + j % 64) 0 else byteOf v (j % 64 - 56)
theorem sealN_at (v : Int) (p : List Int) : ∀ k, k ≤ 4 → ∀ j, j < 64 * k → (sealN v p k).getD j 0 = sealB v p j
  | 0, _, j, hj => by omega
  | k + 1, hk, j, hj => by
    have hl := sealN_length v p k (by omega)
    have hs := secAt_length v p k 8
    unfold sealN lay
    rw [splice_getD _ _ _ _ (by omega)]
    by_cases h : j < 64 * k
    · rw [if_pos h]; exact sealN_at v p k (by omega) j h
    · rw [if_neg h, if_pos (by omega)]
      unfold secAt
      rw [fl_at _ _ _ (by omega)]
      have e1 : j / 64 = k := by omega
      have e2 : j - 64 * k = j % 64 := by omega
      unfold sealB
      rw [e1, e2]
      split
      · rfl
      · rw [if_pos (by omega)]
theorem sealN_fl (v : Int) (p : List Int) : sealN v p 4 = fl 256 (sealB v p) :=
  eq_fl _ _ _ (sealN_length v p 4 (by omega)) (fun j hj => sealN_at v p 4 (by omega) j (by omega))
theorem fl_bytes (n : Nat) (f : Nat → Int) (h : ∀ j, j < n → 0 ≤ f j ∧ f j ≤ 255) : Bytes (fl n f) := by
  intro y hy
  unfold fl at hy
  obtain ⟨j, hj, rfl⟩ := List.mem_map.1 hy
  exact h j (List.mem_range.1 hj)
theorem sealB_fits (v : Int) (p : List Int) (hp : Bytes p) (j : Nat) : 0 ≤ sealB v p j ∧ sealB v p j ≤ 255 := by
  unfold sealB
  split
  · exact hp.at _
  · exact byteOf_fits _ _
theorem sealN_bytes (v : Int) (p : List Int) (hp : Bytes p) : Bytes (sealN v p 4) := by
  rw [sealN_fl]; exact fl_bytes _ _ (fun j _ => sealB_fits v p hp j)
theorem num_congr (f g : Nat → Int) : ∀ n, (∀ j, j < n → f j = g j) → num f n = num g n
  | 0, _ => rfl
  | n + 1, h => by rw [num, num, num_congr f g n (fun j hj => h j (by omega)), h n (by omega)]
theorem stampAt_fl (b : List Int) (i : Nat) (hi : i < 4) : stampAt b i = num (fun j => b.getD (64 * i + 56 + j) 0) 8 := by
  unfold stampAt
  apply num_congr
  intro j hj
  unfold atOff
  rw [cut_getD b i (56 + j) (by omega), Nat.add_assoc]
theorem stamp_sealed (v : Int) (p : List Int) (hv : 0 ≤ v) (hv' : v ≤ 18446744073709551615) (i : Nat) (hi : i < 4) : stampAt (sealN v p 4) i = v := by
  rw [stampAt_fl _ i hi]
  refine Eq.trans (num_congr _ (byteOf v) 8 ?_) (num_whole v hv hv')
  intro j hj
  rw [sealN_at v p 4 (by omega) _ (by omega)]
  unfold sealB
  rw [if_neg (by omega)]
  congr 1; omega
theorem pay_sealed (v : Int) (p : List Int) (hp : p.length = 224) : payN (sealN v p 4) 4 = p := by
  symm
  apply eq_fl _ _ _ hp
  intro j hj
  rw [if_pos (by omega), sealN_at v p 4 (by omega) _ (by omega)]
  unfold sealB
  have e1 : (64 * (j / 56) + j % 56) % 64 = j % 56 := by omega
  have e2 : (64 * (j / 56) + j % 56) / 64 = j / 56 := by omega
  rw [e1, e2, if_pos (by omega), show 56 * (j / 56) + j % 56 = j by omega]
end Go.Proofs.Ytgnedbagelhcbaa.Sl
