/-
  Proved here: a page in which nothing follows a record (slot.Cut).
-/
import Derived.Test.YtddhjkgefninbaaFree
namespace Go.Proofs.Ytddhjkgefninbaa
open Go.ChangeShapes Go.WideShapes Go.ChangeAt Go.RowKit
set_option linter.unusedVariables false
set_option linter.unusedSimpArgs false
set_option maxRecDepth 20000

theorem size48 : (Try.prog.info? 48).map (·.size) = some 2 := by kernel_rfl
theorem Own.putNext {w : World} {base g n cap : Nat} {os : List O} (h : Own w base (.slice (some ⟨g, 0, none⟩) n cap) os) (s : Nat) (o : O) (hs : os[s]? = some o) : Own (w.setCells g (s * 6 + 3) [.int .u16 0, .int .u8 0]) base (.slice (some ⟨g, 0, none⟩) n cap) (os.set s { o with np := 0, ns := 0 }) := by
  have hsl : s < os.length := (List.getElem?_eq_some_iff.1 hs).1
  obtain ⟨h1, h2⟩ := h
  rcases h2 with ⟨q, _⟩ | ⟨g', cap', cur, q, hb, hc, hle, hmx, hsz, ht⟩
  · cases q
  · cases q
    have r : Row w g cur 50 := hc
    have hm : os.length * 6 ≤ cap * 6 := Nat.mul_le_mul_right _ hle
    refine ⟨by rw [flat_length], Or.inr ⟨g, cap, _, by rw [List.length_set], hb, row_setMany g _ (s * 6 + 3) w cur 50 r, by simpa using hle, hmx, by rw [setMany_size]; exact hsz, ?_⟩⟩
    apply List.ext_getElem?
    intro j
    rw [List.length_set, flat_get, List.getElem?_take]
    by_cases hj : j < os.length * 6
    · rw [if_pos hj, Array.getElem?_toList, setMany_at _ _ _ _ (by simp; omega), List.getElem?_set]
      have e : (flat os)[j]? = cur[j]? := by rw [← ht, List.getElem?_take, if_pos hj, Array.getElem?_toList]
      rw [← e, flat_get]
      by_cases q : s = j / 6
      · rw [if_pos q, if_pos hsl, ← q, hs]
        have h6 : j % 6 < 6 := Nat.mod_lt _ (by omega)
        show (if s * 6 + 3 ≤ j ∧ j < s * 6 + 3 + 2 then [Value.int .u16 0, .int .u8 0][j - (s * 6 + 3)]? else o.cells[j % 6]?) = _
        have hj6 : j = s * 6 + j % 6 := by omega
        generalize j % 6 = m at hj6 h6
        subst hj6
        match m, h6 with
        | 0, _ => rw [if_neg (by omega)]; rfl
        | 1, _ => rw [if_neg (by omega)]; rfl
        | 2, _ => rw [if_neg (by omega)]; rfl
        | 3, _ => rw [if_pos (by omega), show s * 6 + 3 - (s * 6 + 3) = 0 by omega]; rfl
        | 4, _ => rw [if_pos (by omega), show s * 6 + 4 - (s * 6 + 3) = 1 by omega]; rfl
        | 5, _ => rw [if_neg (by omega)]; rfl
      · rw [if_neg q, if_neg (by simp; omega)]
    · rw [if_neg hj]
      rw [List.getElem?_eq_none (by simp; omega)]; rfl

end Go.Proofs.Ytddhjkgefninbaa
