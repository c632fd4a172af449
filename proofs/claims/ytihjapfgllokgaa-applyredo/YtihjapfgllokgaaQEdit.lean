/-
  Plain facts on lists of records in memory of their own: one is changed, the last ones are left off, one is added.
-/
import Derived.Test.YtihjapfgllokgaaQGet
namespace Go.Proofs.Ytihjapfgllokgaa
open Go.ChangeShapes Go.WideShapes Go.ChangeAt Go.RowKit
set_option linter.unusedVariables false
set_option linter.unusedSimpArgs false
set_option maxRecDepth 20000

def setMany (cs : Array Value) (o : Nat) : List Value → Array Value
  | [] => cs
  | v :: r => setMany (cs.setIfInBounds o v) (o + 1) r
theorem setMany_size : ∀ (vs : List Value) (cs : Array Value) (o : Nat), (setMany cs o vs).size = cs.size
  | [], _, _ => rfl
  | v :: r, cs, o => by unfold setMany; rw [setMany_size r]; simp
theorem setMany_at : ∀ (vs : List Value) (cs : Array Value) (o j : Nat), o + vs.length ≤ cs.size → (setMany cs o vs)[j]? = if o ≤ j ∧ j < o + vs.length then vs[j - o]? else cs[j]?
  | [], cs, o, j, _ => by rw [if_neg (by simp)]; rfl
  | v :: r, cs, o, j, h => by
    unfold setMany
    simp only [List.length_cons] at h ⊢
    rw [setMany_at r _ (o + 1) j (by simp; omega)]
    by_cases e : j = o
    · subst e
      rw [if_neg (by omega), if_pos (by omega), Nat.sub_self, Array.getElem?_setIfInBounds, if_pos rfl, if_pos (by omega)]; rfl
    · by_cases q : o + 1 ≤ j ∧ j < o + 1 + r.length
      · rw [if_pos q, if_pos (by omega), show j - o = (j - (o + 1)) + 1 by omega, List.getElem?_cons_succ]
      · rw [if_neg q, if_neg (by omega), Array.getElem?_setIfInBounds, if_neg (by omega)]
theorem row_setMany (g : Nat) : ∀ (vs : List Value) (o : Nat) (w : World) (cs : Array Value) (t : TypeId), Row w g cs t → Row (w.setCells g o vs) g (setMany cs o vs) t
  | [], _, _, _, _, h => h
  | v :: r, o, w, cs, t, h => by
    rw [World.setCells]; unfold setMany
    exact row_setMany g r (o + 1) _ _ t (row_set h o v)
theorem flat_get (os : List O) (j : Nat) : (flat os)[j]? = (os[j / 6]?).bind (fun o => o.cells[j % 6]?) := by
  have e : j = j / 6 * 6 + j % 6 := by omega
  cases h : os[j / 6]? with
  | some o =>
    have := flat_at os (j / 6) (j % 6) o h (by omega)
    rw [← e] at this; rw [this]; rfl
  | none =>
    have hl : os.length ≤ j / 6 := by simpa using h
    rw [List.getElem?_eq_none (by rw [flat_length]; omega)]; rfl
theorem Own.blkS {w : World} {base : Nat} {v : Value} {os : List O} (h : Own w base v os) (hn : 0 < os.length) : ∃ g cap, v = .slice (some ⟨g, 0, none⟩) os.length cap ∧ base ≤ g := by
  rcases h.2 with ⟨rfl, h2⟩ | ⟨g, cap, cur, rfl, hb, _⟩
  · omega
  · exact ⟨g, cap, rfl, hb⟩
theorem Own.there {w : World} {base g n cap : Nat} {os : List O} (h : Own w base (.slice (some ⟨g, 0, none⟩) n cap) os) (s : Nat) (hs : s < os.length) : w.there g (s * 6) 6 := fun j hj => by
  rcases h.2 with ⟨q, _⟩ | ⟨g', cap', cur, q, hb, hc, hle, _, hsz, _⟩
  · cases q
  · cases q
    have r : Row w g cur 31 := hc
    refine ⟨?_, row_frozen r _⟩
    have hm : os.length * 6 ≤ cap * 6 := Nat.mul_le_mul_right _ hle
    rw [cell_of_row w g _ _ _ _ r, Array.getElem?_eq_getElem (by rw [hsz]; omega)]; rfl
theorem Own.put {w : World} {base g n cap : Nat} {os : List O} (h : Own w base (.slice (some ⟨g, 0, none⟩) n cap) os) (s : Nat) (hs : s < os.length) (o : O) : Own (w.setCells g (s * 6) o.cells) base (.slice (some ⟨g, 0, none⟩) n cap) (os.set s o) := by
  obtain ⟨h1, h2⟩ := h
  rcases h2 with ⟨q, _⟩ | ⟨g', cap', cur, q, hb, hc, hle, hmx, hsz, ht⟩
  · cases q
  · cases q
    have r : Row w g cur 31 := hc
    have hm : os.length * 6 ≤ cap * 6 := Nat.mul_le_mul_right _ hle
    refine ⟨by rw [flat_length], Or.inr ⟨g, cap, _, by rw [List.length_set], hb, row_setMany g o.cells (s * 6) w cur 31 r, by simpa using hle, hmx, by rw [setMany_size]; exact hsz, ?_⟩⟩
    apply List.ext_getElem?
    intro j
    rw [List.length_set, flat_get, List.getElem?_take]
    by_cases hj : j < os.length * 6
    · rw [if_pos hj, Array.getElem?_toList, setMany_at _ _ _ _ (by rw [O.cells_length, hsz]; omega), O.cells_length, List.getElem?_set]
      have e : (flat os)[j]? = cur[j]? := by rw [← ht, List.getElem?_take, if_pos hj, Array.getElem?_toList]
      by_cases q : s * 6 ≤ j ∧ j < s * 6 + 6
      · have e1 : s = j / 6 := by omega
        rw [if_pos q, if_pos e1, if_pos (by omega)]
        show _ = o.cells[j % 6]?
        congr 1; omega
      · rw [if_neg q, if_neg (by omega), ← e, flat_get]
    · rw [if_neg hj]
      rw [List.getElem?_eq_none (by simp; omega)]; rfl
theorem Own.cut {w : World} {base g n cap : Nat} {os : List O} (h : Own w base (.slice (some ⟨g, 0, none⟩) n cap) os) (k : Nat) (hk : k ≤ os.length) : Own w base (.slice (some ⟨g, 0, none⟩) k cap) (os.take k) := by
  obtain ⟨h1, h2⟩ := h
  rcases h2 with ⟨q, _⟩ | ⟨g', cap', cur, q, hb, hc, hle, hmx, hsz, ht⟩
  · cases q
  · cases q
    have hlk : (os.take k).length = k := by simp; omega
    refine ⟨by rw [flat_length], Or.inr ⟨g, cap, cur, by rw [hlk], hb, hc, by rw [hlk]; omega, hmx, hsz, ?_⟩⟩
    rw [hlk]
    apply List.ext_getElem?
    intro j
    rw [flat_get, List.getElem?_take]
    by_cases hj : j < k * 6
    · have e : (flat os)[j]? = cur.toList[j]? := by rw [← ht, List.getElem?_take, if_pos (by omega)]
      rw [if_pos hj, List.getElem?_take, if_pos (by omega), ← e, flat_get]
    · rw [if_neg hj, List.getElem?_take, if_neg (by omega)]; rfl
theorem Own.other {w : World} {base : Nat} {v : Value} {os : List O} (h : Own w base v os) (j o : Nat) (x : Value) (hj : j < base) : Own (w.setCell ⟨j, o, none⟩ x) base v os := by
  obtain ⟨h1, h2⟩ := h
  refine ⟨h1, ?_⟩
  rcases h2 with h2 | ⟨g, cap, cur, rfl, hb', hc, rest⟩
  · exact Or.inl h2
  · exact Or.inr ⟨g, cap, cur, rfl, hb', by rw [Below.heap_setCell w _ x g (by show g ≠ j; omega)]; exact hc, rest⟩
theorem below_setCells {B g : Nat} {a : World} (hg : B ≤ g) : ∀ (vs : List Value) (o : Nat) (w : World), Below B a w → Below B a (w.setCells g o vs)
  | [], _, _, h => h
  | v :: r, o, w, h => by
    rw [World.setCells]
    exact below_setCells hg r (o + 1) _ (h.setCell (p := ⟨g, o, none⟩) hg v)
theorem Row.cells {w : World} {k : Nat} {cs : Array Value} {t : TypeId} (h : Row w k cs t) (g : Nat) (hg : k ≠ g) : ∀ (vs : List Value) (o : Nat), Row (w.setCells g o vs) k cs t := by
  intro vs
  induction vs generalizing w with
  | nil => intro o; exact h
  | cons v r ih => intro o; rw [World.setCells]; exact ih (row_setCell_other h hg o v) (o + 1)
end Go.Proofs.Ytihjapfgllokgaa
