/-
  Lists of texts that came in, and what a law of texts one behind the other wants of them.
-/
import Derived.Test.YtgnedbagelhcbaaWh
import Derived.Test.YtgnedbagelhcbaaLop
import Derived.Test.YtgnedbagelhcbaaLrd
import Derived.Deep.Strs
namespace Go.Proofs.Ytgnedbagelhcbaa
open Go.ChangeShapes Go.WideShapes Go.ChangeAt Go.RowKit Go.Deep
set_option linter.unusedVariables false
set_option linter.unusedSimpArgs false
set_option maxRecDepth 20000

/-- A slice of texts. -/
def Strs (w : World) (v : Value) (xs : List ByteArray) : Prop := ∃ oa cap, v = .slice oa xs.length cap ∧ ∀ i, i < xs.length → ∃ (a : Addr) (s : ByteArray), oa = some a ∧ xs[i]? = some s ∧ w.cell? (a.add i) = some (.string s) ∧ s.size ≤ maxLen
theorem open_strsv {H : Type} {enc : TypeId × Value → H} {W : World} {base : Nat} {v : Value} {d : DataW H} {ps : List MemPlace}
    (hv : Value.okWide Try.prog W .any base 73 v) (h : DataW.Trod enc Try.prog W 0 (fun _ => true) true 73 v d ps) : ∃ xs, Strs W v xs := by
  obtain ⟨fuel, hf⟩ := h
  obtain ⟨av, lv, cv, rfl⟩ := okWide_slice Try.underlying73 hv
  rcases open_strs Try.underlying73 Try.underlying9 (by kernel_rfl) hf with ⟨q, _⟩ | ⟨a, len, cap, m, Sx, q, _, hle, _, hm, _, hc⟩
  · have q' : Value.slice av lv cv = .slice none 0 0 := by simpa [Value.cells] using q
    exact ⟨[], none, 0, by rw [q']; rfl, fun i hi => absurd hi (by simp)⟩
  · have q' : Value.slice av lv cv = .slice (some a) len cap := by simpa [Value.cells] using q
    refine ⟨(List.range len).map Sx, some a, cap, by rw [q']; simp, fun i hi => ?_⟩
    have hi' : i < len := by simpa using hi
    have hmm : len ≤ m := by rw [hm]; simp; omega
    have := hc i (by omega)
    exact ⟨a, Sx i, rfl, by simp [hi'], this.1, this.2⟩
theorem It.Own.shape {w : World} {base n cap : Nat} {oa : Option Addr} {l : List It.O} (h : It.Own w base (.slice oa n cap) l) : n = l.length ∧ n ≤ cap ∧ ((oa = none ∧ n = 0 ∧ cap = 0) ∨ ∃ g, oa = some ⟨g, 0, none⟩) := by
  rcases h.2 with ⟨q, h2⟩ | ⟨g, cap', cur, q, _, _, hle, _⟩
  · cases q; exact ⟨h2.symm, Nat.le_refl _, Or.inl ⟨rfl, rfl, rfl⟩⟩
  · cases q; exact ⟨rfl, hle, Or.inr ⟨g, rfl⟩⟩
theorem lsns_take : ∀ (p : Int) (l : List ByteArray) (j : Nat), (lsns p l).take j = lsns p (l.take j)
  | _, [], _ => by simp [lsns]
  | _, _ :: _, 0 => rfl
  | p, t :: r, j + 1 => by simp [lsns, lsns_take]
theorem lsns_at : ∀ (p : Int) (l : List ByteArray) (j : Nat) (t : ByteArray), l[j]? = some t → (lsns p l)[j]? = some ⟨endOf p (l.take j), t⟩
  | _, [], _, _, h => by simp at h
  | p, a :: r, 0, t, h => by simp at h; subst h; rfl
  | p, a :: r, j + 1, t, h => by
    simp at h
    simp only [lsns, List.take_succ_cons, endOf, List.getElem?_cons_succ]
    exact lsns_at _ r j t h
theorem filter_snoc (xs : List ByteArray) (k : Nat) (s : ByteArray) (h : xs[k]? = some s) : (xs.take (k + 1)).filter okF = (xs.take k).filter okF ++ (if okF s then [s] else []) := by
  obtain ⟨hk, e⟩ := List.getElem?_eq_some_iff.1 h
  rw [List.take_succ_eq_append_getElem hk, List.filter_append, e]
  by_cases q : okF s = true
  · rw [if_pos q]; simp [q]
  · rw [if_neg q]; simp [q]
theorem own_oneI {w : World} {base : Nat} {v : Value} {c : It.O} (h : It.Own w base v [c]) : ∃ g cap, v = .slice (some ⟨g, 0, none⟩) 1 cap ∧ w.cell? ⟨g, 1, none⟩ = some (.string c.txt) := by
  obtain ⟨oa, cap, hv, hcell⟩ := (It.Own.olds h).open
  rcases h.2 with ⟨_, q⟩ | ⟨g, cap', cur, e, _, hc, _, _, hsz, ht⟩
  · cases q
  · refine ⟨g, cap', e, ?_⟩
    have hR : Row w g cur 83 := hc
    refine row_at hR 1 _ ?_
    rw [← Array.getElem?_toList]
    have := congrArg (fun l => l[1]?) ht
    simp only [List.getElem?_take] at this
    rw [if_pos (by simp)] at this; exact this
end Go.Proofs.Ytgnedbagelhcbaa
