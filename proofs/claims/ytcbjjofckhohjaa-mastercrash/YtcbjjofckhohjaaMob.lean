/-
  Plain facts on the statements' arguments: lists of Booleans that came in.
-/
import Derived.Test.YtcbjjofckhohjaaMop
import Derived.Test.YtcbjjofckhohjaaMcf
namespace Go.Proofs.Ytcbjjofckhohjaa
open Go.ChangeShapes Go.WideShapes Go.ChangeAt Go.RowKit
open Go.Deep
set_option linter.unusedVariables false
set_option linter.unusedSimpArgs false

theorem cells4 : Try.prog.cellsOf 4 = 1 := by kernel_rfl
theorem bytes4 : Try.prog.bytesOf 4 = 1 := by kernel_rfl
section
variable {H : Type} {enc : TypeId × Value → H}
theorem open_boolsv {w : World} {base : Nat} {v : Value} {d : DataW H} {p : List MemPlace} (hv : Value.okWide Try.prog w .any base 50 v) (h : DataW.Trod enc Try.prog w 0 (fun _ => true) true 50 v d p) (hs : (d.weights Try.prog 50).all (· ≤ reachBytes) = true) :
    ∃ bl : List Bool, Cel w v (bl.map .bool) ∧ bl.length ≤ 140737488355328 := by
  obtain ⟨fuel, hf⟩ := h
  obtain ⟨av, lv, cv, rfl⟩ := okWide_slice Try.underlying50 hv
  rcases open_bools Try.underlying50 Try.underlying4 cells4 hf with ⟨q, _⟩ | ⟨a, len, cap, B, q, _, hle, _, hx, hc⟩
  · have q' : Value.slice av lv cv = .slice none 0 0 := by simpa [Value.cells] using q
    exact ⟨[], Or.inl ⟨q', rfl⟩, by simp⟩
  · have q' : Value.slice av lv cv = .slice (some a) len cap := by simpa [Value.cells] using q
    rw [q']
    refine ⟨(List.range len).map B, Or.inr ⟨a, cap, by simp, fun j u hj => ?_⟩, ?_⟩
    · rw [List.getElem?_map, List.getElem?_map] at hj
      by_cases hjl : j < len
      · rw [List.getElem?_range hjl] at hj
        simp at hj
        rw [hc j (by omega), ← hj]
      · rw [List.getElem?_eq_none (by simp; omega)] at hj; simp at hj
    · simp only [Prod.mk.injEq] at hx
      rw [hx.1] at hs
      simp [DataW.weights, Try.underlying50, bytes4, boolRow] at hs
      have := hs.1
      unfold reachBytes at this
      simp
      omega
end
end Go.Proofs.Ytcbjjofckhohjaa
