/-
  Plain facts on deltas: the text that is told is a delta of its runs; what its pieces make of a body; which places Make takes in; how long its text is.
-/
import Derived.Test.YtmnbfcmamhinbabDap
namespace Go.Proofs.Ytmnbfcmamhinbab.Dl
open Go.ChangeShapes Go.WideShapes Go.ChangeAt Go.RowKit
set_option linter.unusedVariables false
set_option linter.unusedSimpArgs false
set_option maxRecDepth 20000

/-- The runs of places from a place on, with a body's bytes. -/
def runsFrom (b : List Int) (H : List Bool) : Nat → Nat → List (Nat × List Int)
  | 0, _ => []
  | f + 1, a => if a < 64 then (if 0 < runAt H a then [(a, (b.drop a).take (runAt H a))] else []) ++ runsFrom b H f (a + runAt H a + 1) else []
theorem tellFrom_succ (b : List Int) (H : List Bool) (f a : Nat) : tellFrom b H (f + 1) a = if a < 64 then pieceAt b H a ++ tellFrom b H f (a + runAt H a + 1) else [] := rfl
theorem runsFrom_succ (b : List Int) (H : List Bool) (f a : Nat) : runsFrom b H (f + 1) a = if a < 64 then (if 0 < runAt H a then [(a, (b.drop a).take (runAt H a))] else []) ++ runsFrom b H f (a + runAt H a + 1) else [] := rfl
theorem parse_nil (g nx : Nat) (h : 0 < g) : parse g nx [] = some [] := by
  cases g with
  | zero => omega
  | succ g => rfl
theorem parse_tell (b : List Int) (hb : b.length = 64) (H : List Bool) (hl : H.length = 64) : ∀ f a nx g, nx ≤ a → (tellFrom b H f a).length < g → parse g nx (tellFrom b H f a) = some (runsFrom b H f a)
  | 0, a, nx, g, _, h => parse_nil g nx (by simp [tellFrom] at h; omega)
  | f + 1, a, nx, g, hn, h => by
    rw [tellFrom_succ] at h ⊢
    rw [runsFrom_succ]
    by_cases ha : a < 64
    · rw [if_pos ha] at h ⊢
      rw [if_pos ha]
      have hle := runAt_le H a hl (by omega)
      unfold pieceAt at h ⊢
      by_cases hr : 0 < runAt H a
      · rw [if_pos hr] at h ⊢
        rw [if_pos hr]
        cases g with
        | zero => simp at h
        | succ g =>
          have hp : ((b.drop a).take (runAt H a)).length = runAt H a := by simp; omega
          simp only [List.cons_append] at h ⊢
          rw [parse_cons2, if_neg (by rw [List.length_append, hp]; omega)]
          have e1 : ((a : Int) + (runAt H a : Int) + 1).toNat = a + runAt H a + 1 := by omega
          have e2 : ((runAt H a : Nat) : Int).toNat = runAt H a := by omega
          have e3 : ((a : Nat) : Int).toNat = a := by omega
          rw [e1, e2, e3, List.drop_left' hp, List.take_left' hp]
          rw [parse_tell b hb H hl f (a + runAt H a + 1) _ g (Nat.le_refl _) (by simp at h; omega)]
          rfl
      · rw [if_neg hr] at h ⊢
        rw [if_neg hr]
        simp only [List.nil_append] at h ⊢
        exact parse_tell b hb H hl f _ nx g (by omega) h
    · rw [if_neg ha] at h ⊢
      rw [if_neg ha]
      exact parse_nil g nx (by simp at h; omega)
theorem tellFrom_bytes (b : List Int) (hb : Bytes b) (H : List Bool) (hl : H.length = 64) : ∀ f a, Bytes (tellFrom b H f a)
  | 0, a => fun y hy => nomatch hy
  | f + 1, a => by
    rw [tellFrom_succ]
    split
    · rename_i ha
      have hle := runAt_le H a hl (by omega)
      intro y hy
      rcases List.mem_append.1 hy with h | h
      · unfold pieceAt at h
        split at h
        · rcases List.mem_cons.1 h with rfl | h
          · omega
          · rcases List.mem_cons.1 h with rfl | h
            · omega
            · exact hb y (List.mem_of_mem_drop (List.mem_of_mem_take h))
        · cases h
      · exact tellFrom_bytes b hb H hl f _ y h
    · exact fun y hy => nomatch hy
theorem nums_str (xs : List Int) (h : Bytes xs) : nums (strOfNums xs) = xs := by
  unfold nums
  rw [strOfNums_data, List.map_map]
  apply List.ext_getElem (by simp)
  intro j h1 h2
  have := h xs[j] (List.getElem_mem h2)
  simp
  omega
theorem pieces_tell (b : List Int) (hb : b.length = 64) (hy : Bytes b) (H : List Bool) (hl : H.length = 64) : pieces (strOfNums (tell b H)) = some (runsFrom b H 64 0) := by
  unfold pieces tell
  rw [nums_str _ (tellFrom_bytes b hy H hl 64 0)]
  refine parse_tell b hb H hl 64 0 0 _ (Nat.le_refl _) ?_
  rw [strOfNums_size]
  omega

theorem runs_apply (y : List Int) (hy : y.length = 64) (H : List Bool) (hl : H.length = 64) : ∀ f a x, x.length = 64 → 64 ≤ a + f → ∀ j, j < 64 → (applyAll x (runsFrom y H f a)).getD j 0 = if a ≤ j ∧ H.getD j false = true then y.getD j 0 else x.getD j 0
  | 0, a, x, hx, h, j, hj => by rw [if_neg (by omega)]; rfl
  | f + 1, a, x, hx, h, j, hj => by
    rw [runsFrom_succ]
    by_cases ha : a < 64
    · rw [if_pos ha]
      have hle := runAt_le H a hl (by omega)
      by_cases hr : 0 < runAt H a
      · rw [if_pos hr]
        have hp : ((y.drop a).take (runAt H a)).length = runAt H a := by simp; omega
        have e : applyAll x ([(a, (y.drop a).take (runAt H a))] ++ runsFrom y H f (a + runAt H a + 1)) = applyAll (splice x a ((y.drop a).take (runAt H a))) (runsFrom y H f (a + runAt H a + 1)) := rfl
        rw [e, runs_apply y hy H hl f (a + runAt H a + 1) _ (by rw [length_splice _ _ _ (by omega)]; exact hx) (by omega) j hj, splice_getD _ _ _ _ (by omega), hp]
        by_cases h1 : j < a
        · rw [if_neg (by omega), if_pos h1, if_neg (by omega)]
        · by_cases h2 : j < a + runAt H a
          · have hH := runAt_at H a (j - a) (by omega)
            rw [show a + (j - a) = j by omega] at hH
            rw [if_neg (by omega), if_neg h1, if_pos h2, if_pos ⟨by omega, hH⟩]
            simp only [List.getD]
            rw [List.getElem?_take, if_pos (by omega), List.getElem?_drop, show a + (j - a) = j by omega]
          · by_cases h3 : j = a + runAt H a
            · have hE := runAt_end H a
              rw [← h3] at hE
              rw [if_neg (by omega), if_neg h1, if_neg h2, if_neg (by rw [hE]; simp)]
            · rw [if_neg h1, if_neg h2]
              by_cases h4 : H.getD j false = true
              · rw [if_pos ⟨by omega, h4⟩, if_pos ⟨by omega, h4⟩]
              · rw [if_neg (fun q => h4 q.2), if_neg (fun q => h4 q.2)]
      · rw [if_neg hr, List.nil_append, runs_apply y hy H hl f (a + runAt H a + 1) x hx (by omega) j hj]
        have h0 : runAt H a = 0 := by omega
        rw [h0]
        by_cases h3 : j = a
        · have hE := runAt_end H a
          rw [h0, Nat.add_zero, ← h3] at hE
          rw [if_neg (by omega), if_neg (by rw [hE]; simp)]
        · by_cases h4 : H.getD j false = true
          · by_cases h5 : a ≤ j
            · rw [if_pos ⟨by omega, h4⟩, if_pos ⟨h5, h4⟩]
            · rw [if_neg (by omega), if_neg (by omega)]
          · rw [if_neg (fun q => h4 q.2), if_neg (fun q => h4 q.2)]
    · rw [if_neg ha, if_neg (by omega)]; rfl
theorem runs_fits (y : List Int) (H : List Bool) (hl : H.length = 64) : ∀ f a, Fits (runsFrom y H f a)
  | 0, a => fun p hp => nomatch hp
  | f + 1, a => by
    rw [runsFrom_succ]
    split
    · rename_i ha
      have hle := runAt_le H a hl (by omega)
      intro p hp
      rcases List.mem_append.1 hp with h | h
      · split at h
        · simp at h; subst h; simp; omega
        · cases h
      · exact runs_fits y H hl f _ p h
    · exact fun p hp => nomatch hp
theorem same_list (l m : List Int) (hl : l.length = 64) (hm : m.length = 64) (h : ∀ j, j < 64 → l.getD j 0 = m.getD j 0) : l = m := by
  apply List.ext_getElem (by omega)
  intro j h1 h2
  have := h j (by omega)
  simpa [List.getD, h1, h2] using this
theorem addP_at (H : List Bool) (a n j : Nat) (hj : j < 64) : (addP H a n).getD j false = (H.getD j false || (decide (a ≤ j) && decide (j < a + n))) := bf_at _ _ _ hj
theorem lastD_dif (x y : List Int) : ∀ k, 0 ≤ lastD x y k → dif x y (lastD x y k).toNat = true
  | 0, h => by simp [lastD] at h
  | k + 1, h => by
    unfold lastD at h ⊢
    by_cases d : dif x y k = true
    · rw [if_pos d]; simpa using d
    · rw [if_neg d] at h ⊢; exact lastD_dif x y k h
theorem lastD_max (x y : List Int) : ∀ k m, m < k → dif x y m = true → (m : Int) ≤ lastD x y k
  | 0, m, h, _ => by omega
  | k + 1, m, h, hd => by
    unfold lastD
    by_cases d : dif x y k = true
    · rw [if_pos d]; omega
    · rw [if_neg d]
      by_cases e : m = k
      · subst e; exact absurd hd d
      · exact lastD_max x y k m (by omega) hd
/-- Which places Make has taken in. -/
theorem hasD_iff (x y : List Int) : ∀ k, k ≤ 64 → ∀ j, j < 64 → ((hasD x y k).getD j false = true ↔ ∃ p q, p ≤ j ∧ j ≤ q ∧ q < k ∧ q ≤ p + 3 ∧ dif x y p = true ∧ dif x y q = true)
  | 0, _, j, hj => by
    constructor
    · intro h
      have : (fs.getD j false) = false := by rw [fs_is, bf_at _ _ _ hj]
      unfold hasD at h; rw [this] at h; cases h
    · rintro ⟨p, q, _, _, h, _⟩; omega
  | k + 1, hk, j, hj => by
    have ih := hasD_iff x y k (by omega) j hj
    have hlr := lastD_range x y k
    have hld := lastD_dif x y k
    have hlm := lastD_max x y k
    have hdef : hasD x y (k + 1) = if dif x y k then addP (if 0 ≤ lastD x y k ∧ (k : Int) - lastD x y k - 1 ≤ 2 then addP (hasD x y k) (lastD x y k + 1).toNat ((k : Int) - lastD x y k - 1).toNat else hasD x y k) k 1 else hasD x y k := rfl
    rw [hdef]
    generalize lastD x y k = l at hlr hld hlm
    by_cases d : dif x y k = true
    · rw [if_pos d, addP_at _ _ _ _ hj]
      by_cases hc : 0 ≤ l ∧ (k : Int) - l - 1 ≤ 2
      · rw [if_pos hc, addP_at _ _ _ _ hj]
        have hdl := hld hc.1
        constructor
        · intro h
          simp only [Bool.or_eq_true, Bool.and_eq_true, decide_eq_true_eq] at h
          rcases h with (h | h) | h
          · obtain ⟨p, q, h1, h2, h3, h4, h5, h6⟩ := ih.1 h
            exact ⟨p, q, h1, h2, by omega, h4, h5, h6⟩
          · exact ⟨l.toNat, k, by omega, by omega, by omega, by omega, hdl, d⟩
          · exact ⟨k, k, by omega, by omega, by omega, by omega, d, d⟩
        · rintro ⟨p, q, h1, h2, h3, h4, h5, h6⟩
          simp only [Bool.or_eq_true, Bool.and_eq_true, decide_eq_true_eq]
          by_cases e : q < k
          · exact Or.inl (Or.inl (ih.2 ⟨p, q, h1, h2, e, h4, h5, h6⟩))
          · by_cases e2 : j = k
            · exact Or.inr (by omega)
            · have hp := hlm p (by omega) h5
              by_cases e3 : (j : Int) ≤ l
              · exact Or.inl (Or.inl (ih.2 ⟨p, l.toNat, h1, by omega, by omega, by omega, h5, hdl⟩))
              · exact Or.inl (Or.inr (by omega))
      · rw [if_neg hc]
        constructor
        · intro h
          simp only [Bool.or_eq_true, Bool.and_eq_true, decide_eq_true_eq] at h
          rcases h with h | h
          · obtain ⟨p, q, h1, h2, h3, h4, h5, h6⟩ := ih.1 h
            exact ⟨p, q, h1, h2, by omega, h4, h5, h6⟩
          · exact ⟨k, k, by omega, by omega, by omega, by omega, d, d⟩
        · rintro ⟨p, q, h1, h2, h3, h4, h5, h6⟩
          simp only [Bool.or_eq_true, Bool.and_eq_true, decide_eq_true_eq]
          by_cases e : q < k
          · exact Or.inl (ih.2 ⟨p, q, h1, h2, e, h4, h5, h6⟩)
          · by_cases e2 : j = k
            · exact Or.inr (by omega)
            · have hp := hlm p (by omega) h5
              exfalso; omega
    · rw [if_neg d, ih]
      constructor
      · rintro ⟨p, q, h1, h2, h3, h4, h5, h6⟩
        exact ⟨p, q, h1, h2, by omega, h4, h5, h6⟩
      · rintro ⟨p, q, h1, h2, h3, h4, h5, h6⟩
        refine ⟨p, q, h1, h2, ?_, h4, h5, h6⟩
        by_cases e : q = k
        · subst e; exact absurd h6 d
        · omega
/-- Behind a run there are three places that are not taken in. -/
def Gap (H : List Bool) : Prop := ∀ i, H.getD i false = true → H.getD (i + 1) false = false → H.getD (i + 2) false = false ∧ H.getD (i + 3) false = false
theorem getD_beyond (H : List Bool) (hl : H.length = 64) (j : Nat) (h : 64 ≤ j) : H.getD j false = false := by
  simp only [List.getD]; rw [List.getElem?_eq_none (by omega)]; rfl
theorem hasD_gap (x y : List Int) : Gap (hasD x y 64) := by
  have hl := hasD_length x y 64
  have hi := hasD_iff x y 64 (Nat.le_refl _)
  intro i h1 h2
  have hi64 : i < 64 := by
    by_cases e : i < 64
    · exact e
    · rw [getD_beyond _ hl i (by omega)] at h1; cases h1
  obtain ⟨p, q, a1, a2, a3, a4, a5, a6⟩ := (hi i hi64).1 h1
  have no : ∀ p q, p ≤ i + 1 → i + 1 ≤ q → q < 64 → q ≤ p + 3 → dif x y p = true → dif x y q = true → False := by
    intro p q b1 b2 b3 b4 b5 b6
    have := (hi (i + 1) (by omega)).2 ⟨p, q, b1, b2, b3, b4, b5, b6⟩
    rw [this] at h2; cases h2
  have hq : q = i := by
    by_cases e : q = i
    · exact e
    · exact (no p q (by omega) (by omega) a3 a4 a5 a6).elim
  subst hq
  have far : ∀ m, (m = q + 2 ∨ m = q + 3) → (hasD x y 64).getD m false = false := by
    intro m hm
    by_cases hm64 : m < 64
    · rw [Bool.eq_false_iff]
      intro h
      obtain ⟨p', q', b1, b2, b3, b4, b5, b6⟩ := (hi m hm64).1 h
      by_cases c1 : p' ≤ q + 1
      · exact no p' q' c1 (by omega) b3 b4 b5 b6
      · exact no q p' (by omega) (by omega) (by omega) (by omega) a6 b5
    · exact getD_beyond _ hl m (by omega)
  exact ⟨far _ (Or.inl rfl), far _ (Or.inr rfl)⟩
theorem tell_short (b : List Int) (hb : b.length = 64) (H : List Bool) (hl : H.length = 64) (hG : Gap H) : ∀ f a, 64 ≤ a + f →
    (tellFrom b H f a).length ≤ 66 - a ∧ (H.getD a false = false → (tellFrom b H f a).length ≤ 65 - a) ∧ (H.getD a false = false → H.getD (a + 1) false = false → (tellFrom b H f a).length ≤ 64 - a)
  | 0, a, h => by simp [tellFrom]
  | f + 1, a, h => by
    rw [tellFrom_succ]
    by_cases ha : a < 64
    · rw [if_pos ha]
      have hle := runAt_le H a hl (by omega)
      have hE := runAt_end H a
      unfold pieceAt
      by_cases hr : 0 < runAt H a
      · rw [if_pos hr]
        have hp : ((b.drop a).take (runAt H a)).length = runAt H a := by simp; omega
        have hA := runAt_at H a (runAt H a - 1) (by omega)
        have h0 := runAt_at H a 0 hr
        rw [Nat.add_zero] at h0
        have hg := hG (a + (runAt H a - 1)) hA (by rw [show a + (runAt H a - 1) + 1 = a + runAt H a by omega]; exact hE)
        rw [show a + (runAt H a - 1) + 2 = a + runAt H a + 1 by omega, show a + (runAt H a - 1) + 3 = a + runAt H a + 1 + 1 by omega] at hg
        have ih := (tell_short b hb H hl hG f (a + runAt H a + 1) (by omega)).2.2 hg.1 hg.2
        rw [h0]
        simp only [List.length_append, List.length_cons, hp]
        refine ⟨by omega, by simp, by simp⟩
      · rw [if_neg hr, List.nil_append]
        have hz : runAt H a = 0 := by omega
        rw [hz, Nat.add_zero]
        have ih := tell_short b hb H hl hG f (a + 1) (by omega)
        refine ⟨by omega, fun _ => by omega, fun _ h2 => ?_⟩
        have := ih.2.1 h2
        omega
    · rw [if_neg ha]; simp
/-- What Make tells makes the second body of the first one. -/
theorem make_back (x y : List Int) (hx : x.length = 64) (hy : y.length = 64) (yy : Bytes y) :
    ∃ ps, pieces (strOfNums (tell y (hasD x y 64))) = some ps ∧ applyAll x ps = y := by
  have hl := hasD_length x y 64
  refine ⟨_, pieces_tell y hy yy _ hl, ?_⟩
  apply same_list _ _ (applyAll_length x hx _ (runs_fits y _ hl 64 0)) hy
  intro j hj
  rw [runs_apply y hy _ hl 64 0 x hx (by omega) j hj]
  by_cases h : (hasD x y 64).getD j false = true
  · rw [if_pos ⟨by omega, h⟩]
  · rw [if_neg (fun q => h q.2)]
    by_cases e : x.getD j 0 = y.getD j 0
    · exact e
    · exfalso
      apply h
      have d : dif x y j = true := by unfold dif; rw [decide_eq_false e]; rfl
      exact (hasD_iff x y 64 (Nat.le_refl _) j hj).2 ⟨j, j, by omega, by omega, by omega, by omega, d, d⟩
theorem make_short (x y : List Int) (hy : y.length = 64) : (tell y (hasD x y 64)).length ≤ 66 :=
  (tell_short y hy _ (hasD_length x y 64) (hasD_gap x y) 64 0 (by omega)).1
theorem hasD_same (x : List Int) : ∀ k, hasD x x k = fs
  | 0 => rfl
  | k + 1 => by
    have : dif x x k = false := by unfold dif; simp
    have hdef : hasD x x (k + 1) = if dif x x k then addP (if 0 ≤ lastD x x k ∧ (k : Int) - lastD x x k - 1 ≤ 2 then addP (hasD x x k) (lastD x x k + 1).toNat ((k : Int) - lastD x x k - 1).toNat else hasD x x k) k 1 else hasD x x k := rfl
    rw [hdef, this]; exact hasD_same x k
theorem runAt_fs (a : Nat) : runAt fs a = 0 := by
  by_cases h : 0 < runAt fs a
  · have := runAt_at fs a 0 h
    rw [Nat.add_zero] at this
    by_cases e : a < 64
    · rw [fs_is, bf_at _ _ _ e] at this; cases this
    · rw [getD_beyond fs (by simp [fs]) a (by omega)] at this; cases this
  · omega
theorem tell_fs (b : List Int) : ∀ f a, tellFrom b fs f a = []
  | 0, _ => rfl
  | f + 1, a => by
    rw [tellFrom_succ]
    split
    · unfold pieceAt
      rw [runAt_fs, if_neg (by omega), List.nil_append]; exact tell_fs b f _
    · rfl
/-- What Make tells is empty just if both bodies are the same. -/
theorem make_empty (x y : List Int) (hx : x.length = 64) (hy : y.length = 64) (yy : Bytes y) : tell y (hasD x y 64) = [] ↔ x = y := by
  constructor
  · intro h
    obtain ⟨ps, h1, h2⟩ := make_back x y hx hy yy
    rw [h] at h1
    have : ps = [] := by
      have e : pieces (strOfNums []) = some [] := by decide
      rw [e] at h1; cases h1; rfl
    subst this
    exact h2
  · intro h
    subst h
    rw [hasD_same]; exact tell_fs _ _ _
end Go.Proofs.Ytmnbfcmamhinbab.Dl
