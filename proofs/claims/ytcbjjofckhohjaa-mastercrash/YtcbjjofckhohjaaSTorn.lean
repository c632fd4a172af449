/-
  Plain facts on two sealed blocks of whose sectors some are taken from the one and some from the other: their stamps, and what Open answers of them.
-/
import Derived.Test.YtcbjjofckhohjaaSRefOpen
namespace Go.Proofs.Ytcbjjofckhohjaa.Sl
open Go.ChangeShapes Go.WideShapes Go.ChangeAt Go.RowKit
set_option linter.unusedVariables false
set_option linter.unusedSimpArgs false
set_option maxRecDepth 20000
/-- Two blocks mixed: of the first k sectors those whose bit is set are the second one's. -/
def mix (c : Nat) (A B : List Int) : Nat → List Int
  | 0 => A
  | k + 1 => if c / 2 ^ k % 2 = 1 then lay (mix c A B k) k (cut B k) else mix c A B k
theorem mix_length (c : Nat) (A B : List Int) (hA : A.length = 256) (hB : B.length = 256) : ∀ k, k ≤ 4 → (mix c A B k).length = 256
  | 0, _ => hA
  | k + 1, h => by
    unfold mix
    split
    · exact lay_length _ _ _ (mix_length c A B hA hB k (by omega)) (cut_length B k hB (by omega)) (by omega)
    · exact mix_length c A B hA hB k (by omega)
theorem mix_at (c : Nat) (A B : List Int) (hA : A.length = 256) (hB : B.length = 256) : ∀ k, k ≤ 4 → ∀ j, j < 256 → (mix c A B k).getD j 0 = if j / 64 < k ∧ c / 2 ^ (j / 64) % 2 = 1 then B.getD j 0 else A.getD j 0
  | 0, _, j, _ => by rw [if_neg (by omega)]; rfl
  | k + 1, h, j, hj => by
    have ih := mix_at c A B hA hB k (by omega) j hj
    unfold mix
    by_cases hc : c / 2 ^ k % 2 = 1
    · rw [if_pos hc]
      unfold lay
      have hl := cut_length B k hB (by omega)
      rw [splice_getD _ _ _ _ (by rw [mix_length c A B hA hB k (by omega)]; omega), hl]
      by_cases h1 : j < 64 * k
      · rw [if_pos h1, ih]
        have : j / 64 < k := by omega
        simp only [this, show j / 64 < k + 1 by omega]
      · rw [if_neg h1]
        by_cases h2 : j < 64 * k + 64
        · rw [if_pos h2, cut_getD B k _ (by omega)]
          have e : j / 64 = k := by omega
          rw [if_pos (by rw [e]; exact ⟨by omega, hc⟩)]
          congr 1; omega
        · rw [if_neg h2, ih, if_neg (by omega), if_neg (by omega)]
    · rw [if_neg hc, ih]
      by_cases e : j / 64 = k
      · rw [if_neg (by omega), if_neg (by rw [e]; omega)]
      · by_cases h3 : j / 64 < k ∧ c / 2 ^ (j / 64) % 2 = 1
        · rw [if_pos h3, if_pos (by omega)]
        · rw [if_neg h3, if_neg (by omega)]
theorem eq_list (l m : List Int) (n : Nat) (hl : l.length = n) (hm : m.length = n) (h : ∀ j, j < n → l.getD j 0 = m.getD j 0) : l = m := by
  rw [eq_fl l n _ hl (fun j _ => rfl), eq_fl m n _ hm (fun j _ => rfl)]
  apply eq_fl _ _ _ (fl_length _ _)
  intro j hj
  rw [fl_at _ _ _ hj]; exact h j hj
theorem stamp_mix (c : Nat) (A B : List Int) (hA : A.length = 256) (hB : B.length = 256) (i : Nat) (hi : i < 4) : stampAt (mix c A B 4) i = if c / 2 ^ i % 2 = 1 then stampAt B i else stampAt A i := by
  rw [stampAt_fl _ i hi]
  by_cases h : c / 2 ^ i % 2 = 1
  · rw [if_pos h, stampAt_fl B i hi]
    apply num_congr
    intro j hj
    rw [mix_at c A B hA hB 4 (by omega) _ (by omega)]
    have e : (64 * i + 56 + j) / 64 = i := by omega
    rw [e, if_pos ⟨hi, h⟩]
  · rw [if_neg h, stampAt_fl A i hi]
    apply num_congr
    intro j hj
    rw [mix_at c A B hA hB 4 (by omega) _ (by omega)]
    have e : (64 * i + 56 + j) / 64 = i := by omega
    rw [e, if_neg (by omega)]
theorem mix_none (c : Nat) (A B : List Int) (hA : A.length = 256) (hB : B.length = 256) (hc : c % 16 = 0) : mix c A B 4 = A := by
  apply eq_list _ _ 256 (mix_length c A B hA hB 4 (by omega)) hA
  intro j hj
  rw [mix_at c A B hA hB 4 (by omega) j hj, if_neg]
  rintro ⟨h1, h2⟩
  have : j / 64 = 0 ∨ j / 64 = 1 ∨ j / 64 = 2 ∨ j / 64 = 3 := by omega
  rcases this with e | e | e | e <;> rw [e] at h2 <;> simp at h2 <;> omega
theorem mix_all (c : Nat) (A B : List Int) (hA : A.length = 256) (hB : B.length = 256) (hc : c % 16 = 15) : mix c A B 4 = B := by
  apply eq_list _ _ 256 (mix_length c A B hA hB 4 (by omega)) hB
  intro j hj
  rw [mix_at c A B hA hB 4 (by omega) j hj, if_pos]
  have : j / 64 = 0 ∨ j / 64 = 1 ∨ j / 64 = 2 ∨ j / 64 = 3 := by omega
  rcases this with e | e | e | e <;> rw [e] <;> simp <;> omega
theorem mix_bytes (c : Nat) (A B : List Int) (hA : A.length = 256) (hB : B.length = 256) (yA : Bytes A) (yB : Bytes B) : Bytes (mix c A B 4) := by
  rw [eq_fl (mix c A B 4) 256 _ (mix_length c A B hA hB 4 (by omega)) (fun j hj => rfl)]
  apply fl_bytes
  intro j hj
  rw [mix_at c A B hA hB 4 (by omega) j hj]
  split
  · exact yB.at _
  · exact yA.at _
/-- What Open answers of two sealed blocks mixed. -/
theorem open_mixed (c : Nat) (x y : Int) (p q : List Int) (hx : 0 ≤ x ∧ x ≤ 18446744073709551615) (hy : 0 ≤ y ∧ y ≤ 18446744073709551615) (h0 : ¬ c % 16 = 0) (h15 : ¬ c % 16 = 15) :
    (x = y → ∃ Y, opened (mix c (sealN x p 4) (sealN y q 4) 4) = .tuple #[.int .u64 x, .agg (bs Y), .bool true] ∧ Y.length = 224) ∧
    (x ≠ y → opened (mix c (sealN x p 4) (sealN y q 4) 4) = .tuple #[.int .u64 0, .agg (bs (zs 224)), .bool false]) := by
  have hA := sealN_length x p 4 (by omega)
  have hB := sealN_length y q 4 (by omega)
  have st : ∀ i, i < 4 → stampAt (mix c (sealN x p 4) (sealN y q 4) 4) i = if c / 2 ^ i % 2 = 1 then y else x := by
    intro i hi
    rw [stamp_mix c _ _ hA hB i hi, stamp_sealed x p hx.1 hx.2 i hi, stamp_sealed y q hy.1 hy.2 i hi]
  constructor
  · intro e
    subst e
    refine ⟨payN (mix c (sealN x p 4) (sealN x q 4) 4) 4, ?_, payN_length _ 4⟩
    unfold opened
    rw [st 0 (by omega), st 1 (by omega), st 2 (by omega), st 3 (by omega)]
    simp only [ite_self, and_self, if_true]
  · intro e
    unfold opened
    rw [if_neg]
    rw [st 0 (by omega), st 1 (by omega), st 2 (by omega), st 3 (by omega)]
    rintro ⟨s1, s2, s3⟩
    simp only [Nat.pow_zero, Nat.div_one, Nat.pow_one, show 2 ^ 2 = 4 from rfl, show 2 ^ 3 = 8 from rfl] at s1 s2 s3
    by_cases b0 : c % 2 = 1 <;> by_cases b1 : c / 2 % 2 = 1 <;> by_cases b2 : c / 4 % 2 = 1 <;> by_cases b3 : c / 8 % 2 = 1 <;> simp only [b0, b1, b2, b3, if_true, if_false] at s1 s2 s3 <;> first | exact e s1 | exact e s1.symm | exact e s2 | exact e s2.symm | exact e s3 | exact e s3.symm | (exfalso; omega)
theorem bit_code (c k : Nat) (hc : c < 256) : bits BinOp.and IntKind.u8 ((c : Int) / 2 ^ k) 1 = if c / 2 ^ k % 2 = 1 then 1 else 0 := by
  have e : (c : Int) / 2 ^ k = ((c / 2 ^ k : Nat) : Int) := by
    have e2 : ((2 : Int) ^ k) = ((2 ^ k : Nat) : Int) := by simp
    rw [e2, ← Int.natCast_ediv]
  have hle : c / 2 ^ k ≤ c := Nat.div_le_self _ _
  rw [e]
  generalize c / 2 ^ k = d at hle
  rw [show (1 : Int) = ((1 : Nat) : Int) from rfl, u8_and_nat d 1 (by omega) (by omega), nat_mask1]
  split <;> omega
end Go.Proofs.Ytcbjjofckhohjaa.Sl
