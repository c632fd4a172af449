/-
  Plain facts on blocks and their four sectors, and on writes that lie over what was there.
-/
import Derived.Test.YtcbjjofckhohjaaSure
namespace Go.Proofs.Ytcbjjofckhohjaa
open Go.ChangeShapes Go.WideShapes Go.ChangeAt Go.RowKit
set_option linter.unusedVariables false
set_option linter.unusedSimpArgs false
set_option maxRecDepth 20000

theorem over_or (f : Secs) : ∀ (ps : List (Int × Int × List Int)) (b s : Int), over f ps b s = ((over (fun _ _ => none) ps b s).or (f b s)) := by
  suffices h : ∀ (ps : List (Int × Int × List Int)) (f g : Secs) (b s : Int), over (fun b s => (g b s).or (f b s)) ps b s = (over g ps b s).or (f b s) by
    intro ps b s
    have := h ps f (fun _ _ => none) b s
    simpa using this
  intro ps
  induction ps with
  | nil => intro f g b s; rfl
  | cons q r ih =>
    intro f g b s
    have e : Secs.put (fun b s => (g b s).or (f b s)) q.1 q.2.1 q.2.2 = fun b s => ((g.put q.1 q.2.1 q.2.2) b s).or (f b s) := by
      funext b s
      unfold Secs.put
      split <;> rfl
    show over (Secs.put (fun b s => (g b s).or (f b s)) q.1 q.2.1 q.2.2) r b s = (over (g.put q.1 q.2.1 q.2.2) r b s).or (f b s)
    rw [e]; exact ih f _ b s
theorem over_append (f : Secs) : ∀ (ps qs : List (Int × Int × List Int)), over f (ps ++ qs) = over (over f ps) qs
  | [], qs => rfl
  | q :: r, qs => over_append (f.put q.1 q.2.1 q.2.2) r qs

theorem lay_getD (B : List Int) (hB : B.length = 256) (i : Nat) (hi : i < 4) (s : List Int) (hs : s.length = 64) (j : Nat) : (lay B i s).getD j 0 = if 64 * i ≤ j ∧ j < 64 * i + 64 then s.getD (j - 64 * i) 0 else B.getD j 0 := by
  unfold lay
  rw [splice_getD _ _ _ _ (by omega), hs]
  by_cases h1 : j < 64 * i
  · rw [if_pos h1, if_neg (by omega)]
  · rw [if_neg h1]
    by_cases h2 : j < 64 * i + 64
    · rw [if_pos h2, if_pos ⟨by omega, h2⟩]
    · rw [if_neg h2, if_neg (by omega)]
theorem blk_getD (f : Nat → List Int) (hf : ∀ i, i < 4 → (f i).length = 64) : ∀ k, k ≤ 4 → (blk f k).length = 256 ∧ ∀ j, (blk f k).getD j 0 = if j < 64 * k then (f (j / 64)).getD (j % 64) 0 else 0
  | 0, _ => ⟨zs_length 256, fun j => by rw [if_neg (by omega)]; exact zs_at 256 j⟩
  | k + 1, h => by
    obtain ⟨h1, h2⟩ := blk_getD f hf k (by omega)
    refine ⟨lay_length _ _ _ h1 (hf k (by omega)) (by omega), fun j => ?_⟩
    show (lay (blk f k) k (f k)).getD j 0 = _
    rw [lay_getD _ h1 k (by omega) _ (hf k (by omega)), h2]
    by_cases e : 64 * k ≤ j ∧ j < 64 * k + 64
    · rw [if_pos e, if_pos (by omega), show j / 64 = k by omega, show j - 64 * k = j % 64 by omega]
    · rw [if_neg e]
      by_cases e2 : j < 64 * k
      · rw [if_pos e2, if_pos (by omega)]
      · rw [if_neg e2, if_neg (by omega)]
theorem list_eq (n : Nat) (l m : List Int) (hl : l.length = n) (hm : m.length = n) (h : ∀ j, j < n → l.getD j 0 = m.getD j 0) : l = m := by
  apply List.ext_getElem (by omega)
  intro j h1 h2
  have := h j (by omega)
  simpa [List.getD, h1, h2] using this
theorem blk_congr (f g : Nat → List Int) (hf : ∀ i, i < 4 → (f i).length = 64) (h : ∀ i, i < 4 → f i = g i) : blk f 4 = blk g 4 := by
  have hg : ∀ i, i < 4 → (g i).length = 64 := fun i hi => by rw [← h i hi]; exact hf i hi
  obtain ⟨a1, a2⟩ := blk_getD f hf 4 (by omega)
  obtain ⟨b1, b2⟩ := blk_getD g hg 4 (by omega)
  refine list_eq 256 _ _ a1 b1 fun j hj => ?_
  rw [a2, b2, h (j / 64) (by omega)]
theorem lay_blk (f : Nat → List Int) (hf : ∀ i, i < 4 → (f i).length = 64) (k : Nat) (hk : k < 4) (s : List Int) (hs : s.length = 64) : lay (blk f 4) k s = blk (fun i => if i = k then s else f i) 4 := by
  have hg : ∀ i, i < 4 → (if i = k then s else f i).length = 64 := fun i hi => by
    by_cases e : i = k
    · rw [if_pos e]; exact hs
    · rw [if_neg e]; exact hf i hi
  obtain ⟨a1, a2⟩ := blk_getD f hf 4 (by omega)
  obtain ⟨b1, b2⟩ := blk_getD (fun i => if i = k then s else f i) hg 4 (by omega)
  refine list_eq 256 _ _ (lay_length _ _ _ a1 hs hk) b1 fun j hj => ?_
  have h4 : j < 64 * 4 := by omega
  rw [lay_getD _ a1 k hk s hs, a2, b2]
  simp only [if_pos h4]
  by_cases e : 64 * k ≤ j ∧ j < 64 * k + 64
  · rw [if_pos e, if_pos (by omega), show j - 64 * k = j % 64 by omega]
  · rw [if_neg e, if_neg (by omega)]
theorem blk_bytes (f : Nat → List Int) (hf : ∀ i, i < 4 → Sec (f i)) : Bytes (blk f 4) := by
  obtain ⟨a1, a2⟩ := blk_getD f (fun i hi => (hf i hi).1) 4 (by omega)
  intro y hy
  obtain ⟨j, hj, rfl⟩ := List.mem_iff_getElem.1 hy
  have := a2 j
  rw [if_pos (by omega)] at this
  simp only [List.getD] at this
  rw [List.getElem?_eq_getElem hj] at this
  simp only [Option.getD_some] at this
  rw [this]
  exact (hf (j / 64) (by omega)).2.at _
theorem blk_cut (B : List Int) (hB : B.length = 256) : blk (cut B) 4 = B := by
  have hf : ∀ i, i < 4 → (cut B i).length = 64 := fun i hi => cut_length B i hB hi
  obtain ⟨a1, a2⟩ := blk_getD (cut B) hf 4 (by omega)
  refine list_eq 256 _ _ a1 hB fun j hj => ?_
  rw [a2, if_pos (by omega)]
  unfold cut
  simp only [List.getD]
  rw [List.getElem?_take, if_pos (by omega), List.getElem?_drop, show 64 * (j / 64) + j % 64 = j by omega]
theorem blk_zero : blk (fun _ => zs 64) 4 = zs 256 := by
  obtain ⟨a1, a2⟩ := blk_getD (fun _ => zs 64) (fun _ _ => zs_length 64) 4 (by omega)
  refine list_eq 256 _ _ a1 (zs_length 256) fun j hj => ?_
  rw [a2, if_pos (by omega)]
  simp only [List.getD]
  rw [zs_at, zs_at]
end Go.Proofs.Ytcbjjofckhohjaa
