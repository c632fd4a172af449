/-
  Plain facts: which one of all that ever began is live; one of them ends.
-/
import Derived.Test.YtmnbfcmamhinbaaOrg
namespace Go.Proofs.Ytmnbfcmamhinbaa
open Go.ChangeShapes Go.WideShapes Go.ChangeAt Go.RowKit
open Go.Deep Go.Maps
set_option linter.unusedVariables false
set_option linter.unusedSimpArgs false


theorem lv_mem {T : List Tx.O} {o : Tx.O} (h : o ∈ T) (hl : o.live = true) : (o.n, o.start) ∈ lv T := List.mem_map.2 ⟨o, List.mem_filter.2 ⟨h, hl⟩, rfl⟩
theorem at_some {T : List Tx.O} {n : Int} {i : Nat} (hr : (lv T).Pairwise fun p q => p.1 < q.1) (h : atT T n = some i) : ∃ s, T[i]? = some ⟨n, s, true⟩ ∧ startL (lv T) n = s ∧ hasL (lv T) n = true ∧ atI T n = i := by
  have hi := h
  unfold atT at h
  obtain ⟨hl, hp, _⟩ := List.findIdx?_eq_some_iff_getElem.1 h
  simp at hp
  have ho : T[i]? = some T[i] := List.getElem?_eq_getElem hl
  have hm : T[i] ∈ T := List.getElem_mem hl
  generalize T[i] = o at ho hp hm
  obtain ⟨n', s, l⟩ := o
  simp only at hp
  obtain ⟨rfl, rfl⟩ := hp
  obtain ⟨h1, h2⟩ := live_at hr (lv_mem hm rfl)
  exact ⟨s, ho, h1, h2, by unfold atI; rw [hi]⟩
theorem at_none {T : List Tx.O} {n : Int} (h : atT T n = none) : startL (lv T) n = 0 ∧ hasL (lv T) n = false ∧ atI T n = -1 := by
  have hi := h
  unfold atT at h
  rw [List.findIdx?_eq_none_iff] at h
  have hh : hasL (lv T) n = false := by
    unfold hasL
    rw [List.any_eq_false]
    intro p hp
    obtain ⟨o, ho, rfl⟩ := List.mem_map.1 hp
    obtain ⟨h1, h2⟩ := List.mem_filter.1 ho
    have := h o h1
    simp at this
    simp only [decide_eq_true_eq]
    intro e
    rw [this e] at h2; cases h2
  refine ⟨?_, hh, by unfold atI; rw [hi]⟩
  unfold startL
  have : (lv T).find? (fun p => decide (p.1 = n)) = none := by
    rw [List.find?_eq_none]
    intro p hp
    have := List.any_eq_false.1 hh p hp
    exact this
  rw [this]
theorem flat_set {T : List Tx.O} {i : Nat} {o o' : Tx.O} (h : T[i]? = some o) (j : Nat) (hj : j < 3) (u : Value) (e : o.cells.set j u = o'.cells) : (Tx.flat T).set (i * 3 + j) u = Tx.flat (T.set i o') := by
  induction T generalizing i with
  | nil => simp at h
  | cons z r ih =>
    cases i with
    | zero =>
      simp at h
      subst h
      show (z.cells ++ Tx.flat r).set (0 * 3 + j) u = o'.cells ++ Tx.flat r
      rw [List.set_append_left _ _ (by rw [Tx.O.cells_length]; omega), Nat.zero_mul, Nat.zero_add, e]
    | succ k =>
      show (z.cells ++ Tx.flat r).set ((k + 1) * 3 + j) u = z.cells ++ Tx.flat (r.set k o')
      rw [List.set_append_right _ _ (by rw [Tx.O.cells_length]; omega), Tx.O.cells_length, show (k + 1) * 3 + j - 3 = k * 3 + j by omega]
      rw [ih (by simpa using h)]
theorem Tx.Own.put {w : World} {base b n cap : Nat} {T : List Tx.O} (h : Tx.Own w base (.slice (some ⟨b, 0, none⟩) n cap) T) {i : Nat} {o o' : Tx.O} (hi : T[i]? = some o) (j : Nat) (hj : j < 3) (u : Value) (e : o.cells.set j u = o'.cells) :
    Tx.Own (w.setCell ⟨b, i * 3 + j, none⟩ u) base (.slice (some ⟨b, 0, none⟩) n cap) (T.set i o') := by
  obtain ⟨h1, h2⟩ := h
  unfold Tx.Own
  rw [List.length_set, ← flat_set hi j hj u e]
  refine ⟨by rw [List.length_set]; exact h1, ?_⟩
  rcases h2 with ⟨q, _⟩ | ⟨g, c, cur, q, hb, hc, hle, hm, hsz, htk⟩
  · cases q
  · cases q
    have r : Row w b cur 41 := hc
    refine Or.inr ⟨b, cap, _, rfl, hb, row_set r (i * 3 + j) u, hle, hm, by simp [hsz], ?_⟩
    rw [Array.toList_setIfInBounds, List.take_set, htk]
theorem Tx.Own.cell {w : World} {base b n cap : Nat} {T : List Tx.O} (h : Tx.Own w base (.slice (some ⟨b, 0, none⟩) n cap) T) {i : Nat} {o : Tx.O} (hi : T[i]? = some o) (j : Nat) (u : Value) (hu : o.cells[j]? = some u) : w.cell? ⟨b, i * 3 + j, none⟩ = some u ∧ w.frozen? ⟨b, i * 3 + j, none⟩ = false := by
  have hj : j < 3 := by have := (List.getElem?_eq_some_iff.1 hu).1; rw [Tx.O.cells_length] at this; exact this
  have ha := Tx.flat_at T i j o hi hj
  rw [hu] at ha
  rcases h.2 with ⟨q, _⟩ | ⟨g, c, cur, q, hb, hc, hle, hm, hsz, htk⟩
  · cases q
  · cases q
    have r : Row w b cur 41 := hc
    refine ⟨row_at r _ _ ?_, row_frozen r _⟩
    rw [← htk, List.getElem?_take] at ha
    split at ha
    · simpa using ha
    · cases ha
theorem RfAt.ended {w : World} {r b n cap : Nat} {last max : Int} {T : List Tx.O} (c : RfAt w r (.slice (some ⟨b, 0, none⟩) n cap) last max T) {i : Nat} {m s : Int} (hi : T[i]? = some ⟨m, s, true⟩) :
    RfAt (w.setCell ⟨b, i * 3 + 2, none⟩ (.bool false)) r (.slice (some ⟨b, 0, none⟩) n cap) last max (T.set i ⟨m, s, false⟩) ∧ Off (fun k => r ≤ k) w (w.setCell ⟨b, i * 3 + 2, none⟩ (.bool false)) := by
  have hb : r + 1 ≤ b := (World.ownsRow.lt c.own b rfl).1
  refine ⟨{ row := row_setCell_other c.row (by omega) _ _, own := c.own.put hi 2 (by omega) _ rfl, small := by rw [List.length_set]; exact c.small, nums := fun k o ho => ?_ }, Off.of_setCell _ _ _ (by show r ≤ b; omega)⟩
  rw [List.getElem?_set] at ho
  split at ho
  · rename_i e
    subst e
    split at ho
    · simp at ho
      subst ho
      have := c.nums i _ hi
      exact this
    · cases ho
  · exact c.nums k o ho
theorem lv_ended {T : List Tx.O} (hn : ∀ (i : Nat) (o : Tx.O), T[i]? = some o → o.n = (i : Int) + 1) {i : Nat} {m s : Int} (hi : T[i]? = some ⟨m, s, true⟩) : lv (T.set i ⟨m, s, false⟩) = endL (lv T) m := by
  obtain ⟨hl, ho⟩ := List.getElem?_eq_some_iff.1 hi
  have hm := hn i _ hi
  simp only at hm
  have e1 : T.set i ⟨m, s, false⟩ = T.take i ++ ⟨m, s, false⟩ :: T.drop (i + 1) := List.set_eq_take_append_cons_drop.trans (if_pos hl)
  have e2 : T = T.take i ++ ⟨m, s, true⟩ :: T.drop (i + 1) := by
    have := List.take_append_drop i T
    rw [List.drop_eq_getElem_cons hl, ho] at this
    exact this.symm
  have q1 : ∀ (A : List Tx.O), (∀ o ∈ A, ¬ o.n = m) → endL (lv A) m = lv A := fun A hA => List.filter_eq_self.2 fun p hp => by
    obtain ⟨o, h1, rfl⟩ := List.mem_map.1 hp
    have := hA o (List.mem_filter.1 h1).1
    simpa using this
  have f1 : ∀ o ∈ T.take i, ¬ o.n = m := fun o h => by
    obtain ⟨k, hk, rfl⟩ := List.getElem_of_mem h
    rw [List.length_take] at hk
    have := hn k _ (List.getElem?_eq_getElem (by omega))
    rw [List.getElem_take]
    omega
  have f2 : ∀ o ∈ T.drop (i + 1), ¬ o.n = m := fun o h => by
    obtain ⟨k, hk, rfl⟩ := List.getElem_of_mem h
    rw [List.length_drop] at hk
    have := hn (i + 1 + k) _ (List.getElem?_eq_getElem (by omega))
    rw [List.getElem_drop]
    omega
  have c1 : lv (T.take i ++ ⟨m, s, false⟩ :: T.drop (i + 1)) = lv (T.take i) ++ lv (T.drop (i + 1)) := by
    rw [lv_append]; rfl
  have c2 : lv (T.take i ++ ⟨m, s, true⟩ :: T.drop (i + 1)) = lv (T.take i) ++ (m, s) :: lv (T.drop (i + 1)) := by
    rw [lv_append]; rfl
  rw [e1, c1]
  conv => rhs; rw [e2, c2]
  unfold endL at q1 ⊢
  rw [List.filter_append, List.filter_cons]
  simp only [decide_true, Bool.not_true, Bool.false_eq_true, if_false]
  rw [q1 _ f1, q1 _ f2]
end Go.Proofs.Ytmnbfcmamhinbaa
