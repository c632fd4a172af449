/-
  Proved here: a page without a record (slot.Free), and one in which nothing follows a record (slot.Cut).
-/
import Derived.Test.YtddhjkgefninbaaEdit
namespace Go.Proofs.Ytddhjkgefninbaa
open Go.ChangeShapes Go.WideShapes Go.ChangeAt Go.RowKit
set_option linter.unusedVariables false
set_option linter.unusedSimpArgs false
set_option maxRecDepth 20000

/-- A page and an error that are handed back. -/
def Ans (w : World) (lsn : Int) (os : List O) (er : Int) (e : Ending) (w' : World) : Prop := ∃ v', e = .returned (.tuple #[.agg #[.int .u64 lsn, v'], .int .i64 er]) ∧ Own w' w.heap.size v' os ∧ Below w.heap.size w w'
def freed (os : List O) (s : Nat) : List O := (os.set s O.zero).take (endAt (os.set s O.zero) os.length)
theorem endAt_le (os : List O) : ∀ n, endAt os n ≤ n
  | 0 => Nat.le_refl _
  | n + 1 => by rw [endAt_succ]; split; · exact Nat.le_succ_of_le (endAt_le os n)
                · exact Nat.le_refl _
theorem got_inv {os : List O} {s : Nat} {o : O} (h : got os s = (o, true)) : os[s]? = some o ∧ may os = true ∧ o.live = true := by
  rcases got_cases os s with h' | ⟨o', h1, h2, h3, h4⟩
  · rw [h'] at h; cases h
  · rw [h4] at h; cases h; exact ⟨h1, h2, h3⟩
theorem arr_one (o : O) : o.arr.all (·.oneCell') = true := by simp [O.arr, Value.oneCell']

theorem Own.apart {w : World} {base g n cap : Nat} {os : List O} (h : Own w base (.slice (some ⟨g, 0, none⟩) n cap) os) (j o : Nat) (x : Value) (hj : g ≠ j) : Own (w.setCell ⟨j, o, none⟩ x) base (.slice (some ⟨g, 0, none⟩) n cap) os := by
  obtain ⟨h1, h2⟩ := h
  refine ⟨h1, ?_⟩
  rcases h2 with h2 | ⟨g', cap', cur, q, hb', hc, rest⟩
  · exact Or.inl h2
  · cases q
    exact Or.inr ⟨g, cap, cur, rfl, hb', by rw [Below.heap_setCell w _ x g hj]; exact hc, rest⟩
theorem Own.row {w : World} {base g n cap : Nat} {os : List O} (h : Own w base (.slice (some ⟨g, 0, none⟩) n cap) os) (j : Nat) (cs : Array Value) (hj : g ≠ j) : Own (w.setRow j cs) base (.slice (some ⟨g, 0, none⟩) n cap) os := by
  obtain ⟨h1, h2⟩ := h
  refine ⟨h1, ?_⟩
  rcases h2 with h2 | ⟨g', cap', cur, q, hb', hc, rest⟩
  · exact Or.inl h2
  · cases q
    exact Or.inr ⟨g, cap, cur, rfl, hb', by rw [setRow_other w j g cs hj]; exact hc, rest⟩
end Go.Proofs.Ytddhjkgefninbaa
