/-
  Proved here: the document's Make (varveref03) tells the same text as delta.Make.
-/
import Derived.Test.YtmnbfcmamhinbabDrp
import Derived.Test.YtmnbfcmamhinbabDth
namespace Go.Proofs.Ytmnbfcmamhinbab.Dl
open Go.ChangeShapes Go.WideShapes Go.ChangeAt Go.RowKit
set_option linter.unusedVariables false
set_option linter.unusedSimpArgs false
set_option maxRecDepth 20000

/-- A place that stands between two places that differ, two or three apart; of those pairs that came so far. -/
def Betw (x y : List Int) (i k j : Nat) : Prop := ∃ p q, p ≤ j ∧ j ≤ q ∧ q < 64 ∧ q ≤ p + 3 ∧ p + 2 ≤ q ∧ dif x y p = true ∧ dif x y q = true ∧ (p < i ∨ (p = i ∧ q < k))
/-- The places that are taken in so far. -/
def Tch (x y : List Int) (i k : Nat) (H : List Bool) : Prop := H.length = 64 ∧ ∀ j, j < 64 → (H.getD j false = true ↔ dif x y j = true ∨ Betw x y i k j)
theorem Tch.start (x y : List Int) : Tch x y 0 0 (bf 64 (dif x y)) := by
  refine ⟨bf_length _ _, fun j hj => ?_⟩
  rw [bf_at _ _ _ hj]
  constructor
  · exact Or.inl
  · rintro (h | ⟨p, q, _, _, _, _, _, _, _, h | h⟩)
    · exact h
    · omega
    · omega
theorem Tch.next {x y : List Int} {i : Nat} {H : List Bool} (h : Tch x y i 0 H) : Tch x y i (i + 2) H := by
  refine ⟨h.1, fun j hj => ?_⟩
  rw [h.2 j hj]
  constructor
  · rintro (h | ⟨p, q, a, b, c, d, e, f, g, h | h⟩)
    · exact Or.inl h
    · exact Or.inr ⟨p, q, a, b, c, d, e, f, g, Or.inl h⟩
    · omega
  · rintro (h | ⟨p, q, a, b, c, d, e, f, g, h | h⟩)
    · exact Or.inl h
    · exact Or.inr ⟨p, q, a, b, c, d, e, f, g, Or.inl h⟩
    · omega
theorem Tch.done {x y : List Int} {i k : Nat} {H : List Bool} (h : Tch x y i k H) (hk : i + 3 < k ∨ 64 ≤ k) : Tch x y (i + 1) 0 H := by
  refine ⟨h.1, fun j hj => ?_⟩
  rw [h.2 j hj]
  constructor
  · rintro (h | ⟨p, q, a, b, c, d, e, f, g, h | h⟩)
    · exact Or.inl h
    · exact Or.inr ⟨p, q, a, b, c, d, e, f, g, Or.inl (by omega)⟩
    · exact Or.inr ⟨p, q, a, b, c, d, e, f, g, Or.inl (by omega)⟩
  · rintro (h | ⟨p, q, a, b, c, d, e, f, g, h | h⟩)
    · exact Or.inl h
    · exact Or.inr ⟨p, q, a, b, c, d, e, f, g, by omega⟩
    · omega
theorem Tch.none {x y : List Int} {i k : Nat} {H : List Bool} (h : Tch x y i k H) (hd : ¬ (dif x y i = true ∧ dif x y k = true)) : Tch x y i (k + 1) H := by
  refine ⟨h.1, fun j hj => ?_⟩
  rw [h.2 j hj]
  constructor
  · rintro (h | ⟨p, q, a, b, c, d, e, f, g, h⟩)
    · exact Or.inl h
    · exact Or.inr ⟨p, q, a, b, c, d, e, f, g, by omega⟩
  · rintro (h | ⟨p, q, a, b, c, d, e, f, g, h⟩)
    · exact Or.inl h
    · refine Or.inr ⟨p, q, a, b, c, d, e, f, g, ?_⟩
      rcases h with h | ⟨rfl, h⟩
      · exact Or.inl h
      · by_cases e : q = k
        · subst e; exact absurd ⟨f, g⟩ hd
        · omega
/-- .. and from i up to c. -/
def TchTo (x y : List Int) (i k c : Nat) (H : List Bool) : Prop := H.length = 64 ∧ ∀ j, j < 64 → (H.getD j false = true ↔ (dif x y j = true ∨ Betw x y i k j) ∨ (i ≤ j ∧ j < c))
theorem Tch.begin {x y : List Int} {i k : Nat} {H : List Bool} (h : Tch x y i k H) : TchTo x y i k i H :=
  ⟨h.1, fun j hj => by rw [h.2 j hj]; constructor
                       · exact Or.inl
                       · rintro (h | h)
                         · exact h
                         · omega⟩
theorem TchTo.step {x y : List Int} {i k c : Nat} {H : List Bool} (h : TchTo x y i k c H) (hc : i ≤ c) (hc' : c < 64) : TchTo x y i k (c + 1) (H.set c true) := by
  refine ⟨by simpa using h.1, fun j hj => ?_⟩
  by_cases e : j = c
  · subst e
    have : (H.set j true).getD j false = true := by simp [List.getD, h.1, hj]
    rw [this]; simp; right; exact hc
  · have : (H.set c true).getD j false = H.getD j false := by
      simp only [List.getD]; rw [List.getElem?_set, if_neg (fun q => e q.symm)]
    rw [this, h.2 j hj]
    constructor
    · rintro (h | h)
      · exact Or.inl h
      · exact Or.inr (by omega)
    · rintro (h | h)
      · exact Or.inl h
      · exact Or.inr (by omega)
theorem TchTo.stop {x y : List Int} {i k : Nat} {H : List Bool} (h : TchTo x y i k k H) (hk : i + 2 ≤ k) (hk' : k ≤ i + 3) (h64 : k < 64) (d1 : dif x y i = true) (d2 : dif x y k = true) : Tch x y i (k + 1) H := by
  refine ⟨h.1, fun j hj => ?_⟩
  rw [h.2 j hj]
  constructor
  · rintro ((h | ⟨p, q, a, b, c, d, e, f, g, h⟩) | h)
    · exact Or.inl h
    · exact Or.inr ⟨p, q, a, b, c, d, e, f, g, by omega⟩
    · exact Or.inr ⟨i, k, by omega, by omega, h64, hk', hk, d1, d2, by omega⟩
  · rintro (h | ⟨p, q, a, b, c, d, e, f, g, h⟩)
    · exact Or.inl (Or.inl h)
    · rcases h with h | ⟨rfl, h⟩
      · exact Or.inl (Or.inr ⟨p, q, a, b, c, d, e, f, g, Or.inl h⟩)
      · by_cases e' : q = k
        · subst e'
          by_cases e2 : j = q
          · subst e2; exact Or.inl (Or.inl g)
          · exact Or.inr (by omega)
        · exact Or.inl (Or.inr ⟨p, q, a, b, c, d, e, f, g, Or.inr ⟨rfl, by omega⟩⟩)
theorem bools_eq (H G : List Bool) (h : H.length = 64) (g : G.length = 64) (e : ∀ j, j < 64 → (H.getD j false = true ↔ G.getD j false = true)) : H = G := by
  apply List.ext_getElem (by omega)
  intro j h1 h2
  have := e j (by omega)
  simp [List.getD, h1, h2] at this
  cases hh : H[j] <;> cases hg : G[j] <;> simp_all
theorem Tch.all {x y : List Int} {H : List Bool} (h : Tch x y 64 0 H) : H = hasD x y 64 := by
  refine bools_eq _ _ h.1 (hasD_length x y 64) fun j hj => ?_
  rw [h.2 j hj, hasD_iff x y 64 (Nat.le_refl _) j hj]
  constructor
  · rintro (h | ⟨p, q, a, b, c, d, e, f, g, h⟩)
    · exact ⟨j, j, by omega, by omega, hj, by omega, h, h⟩
    · exact ⟨p, q, a, b, c, d, f, g⟩
  · rintro ⟨p, q, a, b, c, d, f, g⟩
    by_cases e : p + 2 ≤ q
    · exact Or.inr ⟨p, q, a, b, c, d, e, f, g, by omega⟩
    · left
      by_cases e1 : j = p
      · subst e1; exact f
      · have : j = q := by omega
        subst this; exact g
/-- Where they differ, up to a place. -/
def dfs (x y : List Int) (k : Nat) : List Bool := bf 64 fun j => decide (j < k) && dif x y j
theorem dfs_length (x y : List Int) (k : Nat) : (dfs x y k).length = 64 := bf_length _ _
theorem dfs_start (x y : List Int) : dfs x y 0 = fs := by
  rw [fs_is]; exact bf_congr _ _ _ fun j _ => by simp
theorem dfs_step (x y : List Int) (k : Nat) : (dfs x y k).set k (dif x y k) = dfs x y (k + 1) := by
  unfold dfs
  rw [set_bf]
  apply bf_congr
  intro j _
  by_cases e : j = k
  · subst e; simp
  · simp only [if_neg e]
    by_cases h : j < k
    · simp [h, show j < k + 1 by omega]
    · simp [h, show ¬ j < k + 1 by omega]
theorem dfs_all (x y : List Int) : dfs x y 64 = bf 64 (dif x y) := bf_congr _ _ _ fun j hj => by simp [hj]

theorem row_drew {w : World} {g : Nat} {cs : Array Value} {t : TypeId} (h : Row w g cs t) : Row w.drew g cs t := h
set_option maxHeartbeats 1000000 in
theorem rmake_any (x y : List Int) (hx : x.length = 64) (hy : y.length = 64) (yb : Bytes y) (w : World) :
    Calls Try.prog 21 #[.agg (bs x), .agg (bs y)] w fun e w' => e = .returned (.string (strOfNums (tell y (hasD x y 64)))) ∧ Below w.heap.size w w' := by
  have hz := zero79
  have a0 : Row ((((w.alloc (.cells (bs x) 41)).alloc (.cells (bs y) 41)).alloc (.cells (bl fs) 79)).alloc (.cells (bl fs) 79)) w.heap.size (bs x) 41 := (((Row.new _ _ _).alloc _).alloc _).alloc _
  have a1 : Row ((((w.alloc (.cells (bs x) 41)).alloc (.cells (bs y) 41)).alloc (.cells (bl fs) 79)).alloc (.cells (bl fs) 79)) (w.heap.size + 1) (bs y) 41 := by
    have := (Row.new (w.alloc (.cells (bs x) 41)) (bs y) 41).alloc (.cells (bl fs) 79) |>.alloc (.cells (bl fs) 79); simpa using this
  have a2 : Row ((((w.alloc (.cells (bs x) 41)).alloc (.cells (bs y) 41)).alloc (.cells (bl fs) 79)).alloc (.cells (bl fs) 79)) (w.heap.size + 1 + 1) (bl fs) 79 := by
    have := (Row.new ((w.alloc (.cells (bs x) 41)).alloc (.cells (bs y) 41)) (bl fs) 79).alloc (.cells (bl fs) 79); simpa using this
  have a3 : Row ((((w.alloc (.cells (bs x) 41)).alloc (.cells (bs y) 41)).alloc (.cells (bl fs) 79)).alloc (.cells (bl fs) 79)) (w.heap.size + 1 + 1 + 1) (bl fs) 79 := by
    have := (Row.new (((w.alloc (.cells (bs x) 41)).alloc (.cells (bs y) 41)).alloc (.cells (bl fs) 79)) (bl fs) 79); simpa using this
  have ab : Below w.heap.size w ((((w.alloc (.cells (bs x) 41)).alloc (.cells (bs y) 41)).alloc (.cells (bl fs) 79)).alloc (.cells (bl fs) 79)) :=
    (((Below.refl _ _).alloc (Nat.le_refl _) _).alloc (by simp) _).alloc (by simp; omega) _ |>.alloc (by simp; omega) _
  go_enter Try.func21, Try.ntmps21
  go_wp2
  generalize (((w.alloc (.cells (bs x) 41)).alloc (.cells (bs y) 41)).alloc (.cells (bl fs) 79)).alloc (.cells (bl fs) 79) = w1 at a0 a1 a2 a3 ab ⊢
  rw [← dfs_start x y] at a2 a3
  go_loopw [7] (fun i wr => ∃ k : Nat, i = .int .i64 k ∧ k ≤ 64 ∧ Row wr w.heap.size (bs x) 41 ∧ Row wr (w.heap.size + 1) (bs y) 41 ∧ Row wr (w.heap.size + 1 + 1) (bl (dfs x y k)) 79 ∧ Row wr (w.heap.size + 1 + 1 + 1) (bl (dfs x y k)) 79 ∧ Below w.heap.size w wr) (fun i _ => 64 - (intOf i).toNat)
  case atStart => exact ⟨0, rfl, by omega, a0, a1, a2, a3, ab⟩
  case round =>
    clear a0 a1 a2 a3 ab
    obtain ⟨k, rfl, hk, r0, r1, r2, r3, rb⟩ := hrel
    by_cases hlt : k < 64
    · have hl := dfs_length x y k
      have hs := dfs_step x y k
      have hd : dif x y k = !decide (x.getD k 0 = y.getD k 0) := rfl
      obtain ⟨H, HH⟩ : ∃ H, Hid (dfs x y k = H) := ⟨_, rfl⟩
      obtain ⟨b, HB⟩ : ∃ b, Hid (dif x y k = b) := ⟨_, rfl⟩
      obtain ⟨X, HX⟩ : ∃ X, Hid (x.getD k 0 = X) := ⟨_, rfl⟩
      obtain ⟨Y, HY⟩ : ∃ Y, Hid (y.getD k 0 = Y) := ⟨_, rfl⟩
      have c0 := row_cell (row_drew r0) k (by omega)
      have c1 := row_cell (row_drew r1) k (by omega)
      rw [HH.out] at r2 r3 hl hs
      rw [HB.out] at hs hd
      rw [HX.out] at c0 hd
      rw [HY.out] at c1 hd
      have f2 := row_frozen (row_drew r2) k
      have c2 := brow_cell (row_drew r2) k (by omega)
      have q2 : Row (wr.setCell (Addr.mk (w.heap.size + 1 + 1) k none) (.bool b)).drew (w.heap.size + 1 + 1) (bl (H.set k b)) 79 := brow_setCell r2 k b
      have q0 : Row (wr.setCell (Addr.mk (w.heap.size + 1 + 1) k none) (.bool b)).drew w.heap.size (bs x) 41 := row_setCell_other r0 (by omega) k (.bool b)
      have q1 : Row (wr.setCell (Addr.mk (w.heap.size + 1 + 1) k none) (.bool b)).drew (w.heap.size + 1) (bs y) 41 := row_setCell_other r1 (by omega) k (.bool b)
      have q3 : Row (wr.setCell (Addr.mk (w.heap.size + 1 + 1) k none) (.bool b)).drew (w.heap.size + 1 + 1 + 1) (bl H) 79 := row_setCell_other r3 (by omega) k (.bool b)
      have qb : Below w.heap.size w (wr.setCell (Addr.mk (w.heap.size + 1 + 1) k none) (.bool b)).drew := (rb.setCell (p := Addr.mk (w.heap.size + 1 + 1) k none) (by simp; omega) (.bool b)).drew
      have cb := brow_cell q2 k (by simp; omega)
      have eb : (H.set k b).getD k false = b := by simp [List.getD, hl, hlt]
      rw [eb] at cb
      have f3 := row_frozen q3 k
      have c3 := brow_cell q3 k (by omega)
      obtain ⟨H', HH'⟩ : ∃ H', Hid (dfs x y (k + 1) = H') := ⟨_, rfl⟩
      rw [HH'.out] at hs
      have hb' : (decide (X = Y)) = !b := by rw [hd]; simp
      clear eb hd r0 r1 r2 r3 rb
      by_cases hXY : X = Y
      · have e : b = false := by rw [decide_eq_true hXY] at hb'; simpa using hb'.symm
        subst e
        clear hb'
        go_wp2
        go_region
        all_goals
          generalize (wr.setCell (Addr.mk (w.heap.size + 1 + 1) k none) (.bool false)).drew = wd at q0 q1 q2 q3 qb cb f3 c3 ⊢
          have z3 := brow_setCell q3 k false
          have z0 := row_setCell_other q0 (g := w.heap.size + 1 + 1 + 1) (by omega) k (.bool false)
          have z1 := row_setCell_other q1 (g := w.heap.size + 1 + 1 + 1) (by omega) k (.bool false)
          have z2 := row_setCell_other q2 (g := w.heap.size + 1 + 1 + 1) (by omega) k (.bool false)
          have zb := qb.setCell (p := Addr.mk (w.heap.size + 1 + 1 + 1) k none) (by simp; omega) (.bool false)
          rw [hs] at z2 z3
          rw [← HH'.out] at z2 z3
          clear q0 q1 q2 q3 qb c0 c1 f2 c2
          go_wp2
          go_roundw
          all_goals first
            | exact ⟨k + 1, by go_num, by omega, z0, z1, z2, z3, zb⟩
            | (simp [intOf]; omega)
      · have e : b = true := by rw [decide_eq_false hXY] at hb'; simpa using hb'.symm
        subst e
        clear hb'
        have hne : (X != Y) = true := by simpa using hXY
        go_wp2
        go_region
        all_goals
          generalize (wr.setCell (Addr.mk (w.heap.size + 1 + 1) k none) (.bool true)).drew = wd at q0 q1 q2 q3 qb cb f3 c3 ⊢
          have z3 := brow_setCell q3 k true
          have z0 := row_setCell_other q0 (g := w.heap.size + 1 + 1 + 1) (by omega) k (.bool true)
          have z1 := row_setCell_other q1 (g := w.heap.size + 1 + 1 + 1) (by omega) k (.bool true)
          have z2 := row_setCell_other q2 (g := w.heap.size + 1 + 1 + 1) (by omega) k (.bool true)
          have zb := qb.setCell (p := Addr.mk (w.heap.size + 1 + 1 + 1) k none) (by simp; omega) (.bool true)
          rw [hs] at z2 z3
          rw [← HH'.out] at z2 z3
          clear q0 q1 q2 q3 qb c0 c1 f2 c2
          go_wp2
          go_roundw
          all_goals first
            | exact ⟨k + 1, by go_num, by omega, z0, z1, z2, z3, zb⟩
            | (simp [intOf]; omega)
    · have e4 : k = 64 := by omega
      subst e4
      have hT := Tch.start x y
      rw [dfs_all x y] at r2 r3
      have hDl : (bf 64 (dif x y)).length = 64 := bf_length _ _
      have hDat : Hid (∀ j, j < 64 → (bf 64 (dif x y)).getD j false = dif x y j) := fun j hj => bf_at _ _ _ hj
      obtain ⟨D, HD⟩ : ∃ D, Hid (bf 64 (dif x y) = D) := ⟨_, rfl⟩
      rw [HD.out] at r2 r3 hDl hDat hT
      go_wp2
      go_loopw [8] (fun i wr => ∃ (k : Nat) (H : List Bool), i = .int .i64 k ∧ k ≤ 64 ∧ Hid (Tch x y k 0 H) ∧ Row wr w.heap.size (bs x) 41 ∧ Row wr (w.heap.size + 1) (bs y) 41 ∧ Row wr (w.heap.size + 1 + 1) (bl D) 79 ∧ Row wr (w.heap.size + 1 + 1 + 1) (bl H) 79 ∧ Below w.heap.size w wr) (fun i _ => 64 - (intOf i).toNat)
      case atStart => exact ⟨0, D, rfl, by omega, hT, r0, r1, r2, r3, rb⟩
      case round =>
        clear r0 r1 r2 r3 rb hT
        obtain ⟨i, H0, rfl, hi, hT0, r0, r1, r2, r3, rb⟩ := hrel
        by_cases hlt : i < 64
        · go_wp2
          go_loopw [9] (fun kk wr => ∃ (k : Nat) (H : List Bool), kk = .int .i64 k ∧ i + 2 ≤ k ∧ k ≤ i + 4 ∧ Hid (Tch x y i k H) ∧ Row wr w.heap.size (bs x) 41 ∧ Row wr (w.heap.size + 1) (bs y) 41 ∧ Row wr (w.heap.size + 1 + 1) (bl D) 79 ∧ Row wr (w.heap.size + 1 + 1 + 1) (bl H) 79 ∧ Below w.heap.size w wr) (fun kk _ => i + 4 - (intOf kk).toNat)
          case atStart => exact ⟨i + 2, H0, by go_num, by omega, by omega, hT0.out.next, r0, r1, r2, r3, rb⟩
          case round =>
            clear r0 r1 r2 r3 rb hT0
            obtain ⟨k, H, rfl, hk1, hk2, hT, r0, r1, r2, r3, rb⟩ := hrel
            by_cases hend : k ≤ i + 3 ∧ k < 64
            · have he1 : (k : Int) ≤ (i : Int) + 3 := by omega
              have he2 : (k : Int) < 64 := by omega
              have ci := brow_cell r2 i (by omega)
              rw [hDat.out i hlt] at ci
              have ck := brow_cell r2 k (by omega)
              rw [hDat.out k hend.2] at ck
              have hki : k < 64 := hend.2
              by_cases d1 : dif x y i = true
              · by_cases d2 : dif x y k = true
                · rw [d1] at ci
                  rw [d2] at ck
                  have hB : Hid (TchTo x y i k i H) := hT.out.begin
                  have hlen := hT.out.1
                  go_wp2
                  go_loopw [10] (fun jj wr => ∃ (c : Nat) (H : List Bool), jj = .int .i64 c ∧ i ≤ c ∧ c ≤ k ∧ Hid (TchTo x y i k c H) ∧ Row wr w.heap.size (bs x) 41 ∧ Row wr (w.heap.size + 1) (bs y) 41 ∧ Row wr (w.heap.size + 1 + 1) (bl D) 79 ∧ Row wr (w.heap.size + 1 + 1 + 1) (bl H) 79 ∧ Below w.heap.size w wr) (fun jj _ => k - (intOf jj).toNat)
                  case atStart => exact ⟨i, H, rfl, by omega, by omega, hB, r0, r1, r2, r3, rb⟩
                  case round =>
                    clear r0 r1 r2 r3 rb hB hlen ci ck hT
                    obtain ⟨c, G, rfl, hc1, hc2, hG, r0, r1, r2, r3, rb⟩ := hrel
                    by_cases hck : c < k
                    · have hGl := hG.out.1
                      have c3 := brow_cell r3 c (by omega)
                      have f3 := row_frozen r3 c
                      have z3 := brow_setCell r3 c true
                      have z0 := row_setCell_other r0 (g := w.heap.size + 1 + 1 + 1) (by omega) c (.bool true)
                      have z1 := row_setCell_other r1 (g := w.heap.size + 1 + 1 + 1) (by omega) c (.bool true)
                      have z2 := row_setCell_other r2 (g := w.heap.size + 1 + 1 + 1) (by omega) c (.bool true)
                      have zb := rb.setCell (p := Addr.mk (w.heap.size + 1 + 1 + 1) c none) (by simp; omega) (.bool true)
                      have c64 : (c : Int) < 64 := by omega
                      have hG' : Hid (TchTo x y i k (c + 1) (G.set c true)) := hG.out.step hc1 (by omega)
                      go_wp2
                      go_roundw
                      case rel => exact ⟨c + 1, _, by go_num, by omega, by omega, hG', z0, z1, z2, z3, zb⟩
                      case measure => simp [intOf]; omega
                    · have e5 : c = k := by omega
                      subst e5
                      have hT' : Hid (Tch x y i (c + 1) G) := hG.out.stop hk1 hend.1 hki d1 d2
                      go_wp2
                      go_roundw
                      case rel => exact ⟨c + 1, _, by go_num, by omega, by omega, hT', r0, r1, r2, r3, rb⟩
                      case measure => simp [intOf]; omega
                · have hT' : Hid (Tch x y i (k + 1) H) := hT.out.none (fun h => d2 h.2)
                  rw [d1] at ci
                  have d2' : dif x y k = false := by simpa using d2
                  rw [d2'] at ck
                  go_wp2
                  go_roundw
                  case rel => exact ⟨k + 1, _, by go_num, by omega, by omega, hT', r0, r1, r2, r3, rb⟩
                  case measure => simp [intOf]; omega
              · have hT' : Hid (Tch x y i (k + 1) H) := hT.out.none (fun h => d1 h.1)
                have d1' : dif x y i = false := by simpa using d1
                rw [d1'] at ci
                clear ck
                go_wp2
                go_roundw
                case rel => exact ⟨k + 1, _, by go_num, by omega, by omega, hT', r0, r1, r2, r3, rb⟩
                case measure => simp [intOf]; omega
            · have hT' : Hid (Tch x y (i + 1) 0 H) := hT.out.done (by omega)
              by_cases he1 : (k : Int) ≤ (i : Int) + 3
              · have he2 : ¬ (k : Int) < 64 := by omega
                go_wp2
                go_roundw
                case rel => exact ⟨i + 1, _, by go_num, by omega, hT', r0, r1, r2, r3, rb⟩
                case measure => simp [intOf]; omega
              · go_wp2
                go_roundw
                case rel => exact ⟨i + 1, _, by go_num, by omega, hT', r0, r1, r2, r3, rb⟩
                case measure => simp [intOf]; omega
        · have e5 : i = 64 := by omega
          subst e5
          have hE : Hid (H0 = hasD x y 64) := hT0.out.all
          have hl0 := hT0.out.1
          clear hT0
          go_wp2_with (first
            | (refine load_row rfl 41 (.tmp 3) rfl (w.heap.size + 1) rfl 41 (bs y) r1 64 5 Try.underlying41 size41 (by rw [bs_size, hy]) ?_)
            | (refine load_row rfl 79 (.tmp 6) rfl (w.heap.size + 1 + 1 + 1) rfl 79 (bl H0) r3 64 4 Try.underlying79 size79 (by rw [bl_size, hl0]) ?_)
            | (go_at_call 33; refine (rpieces_any y hy yb H0 hl0 _).mono ?_; rintro e wz ⟨rfl, hzb⟩))
          go_ret
          exact ⟨by rw [hE.out]; rfl, rb.trans (hzb.mono (Nat.le_of_lt r0.lt))⟩
end Go.Proofs.Ytmnbfcmamhinbab.Dl
