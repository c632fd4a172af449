/-
  Plain facts on the statements' arguments: blocks as values that came in.
-/
import Derived.Test.YtgnedbagelhcbaaLgaw
import Derived.SizedLaws
import Derived.Deep.Grids
import Derived.Deep.Slices
import Derived.Lib.SmallJoins
import Derived.Carry
namespace Go.Proofs.Ytgnedbagelhcbaa
open Go.ChangeShapes Go.WideShapes Go.ChangeAt Go.RowKit
open Go.Deep
set_option linter.unusedVariables false
set_option linter.unusedSimpArgs false

theorem laidOut : laidOutB Try.prog = true := by kernel_rfl
theorem cells56 : Try.prog.cellsOf 56 = 256 := by kernel_rfl
theorem list_choose {n : Nat} {p : Nat → Int → Prop} (h : ∀ i, i < n → ∃ x, p i x) : ∃ ys : List Int, ys.length = n ∧ ∀ i, i < n → p i (ys.getD i 0) := by
  induction n with
  | zero => exact ⟨[], rfl, fun i hi => by omega⟩
  | succ n ih =>
    obtain ⟨ys, hl, hy⟩ := ih (fun i hi => h i (by omega))
    obtain ⟨x, hx⟩ := h n (by omega)
    refine ⟨ys ++ [x], by simp [hl], fun i hi => ?_⟩
    by_cases e : i < n
    · have := hy i e
      simp only [List.getD] at this ⊢
      rw [List.getElem?_append_left (by omega)]; exact this
    · have e : i = n := by omega
      subst e
      simp only [List.getD]
      rw [List.getElem?_append_right (by omega), hl]; simpa using hx
section
variable {H : Type} {enc : TypeId × Value → H}
theorem open_list {P : Program} {w : World} {base : Nat} {spare : Nat → Bool} {held : Bool} {fuel n : Nat} {t e : TypeId} {cs : List Value} {x : DataW H × List MemPlace} (ht : P.underlying t = some (.array n e)) (he : P.underlying e = some (.int .u8)) (hc : P.cellsOf e = 1) (hl : cs.length = n)
    (hf : DataW.trod enc P w base spare held fuel t cs = some x) : ∃ ys : List Int, cs = ys.map (Value.int .u8) ∧ ys.length = n ∧ Bytes ys := by
  obtain ⟨xs, m, hfu, hx, hlx, hn, hall⟩ := DataW.trod_array ht hf
  have hstep : ∀ i, i < n → ∃ z, cs[i]? = some (.int .u8 z) ∧ (Lit.int .u8 z).wf = true := by
    intro i hi
    have h1 := hall i hi
    obtain ⟨b, hb⟩ : ∃ b, xs[i]? = some b := ⟨xs[i]'(by omega), List.getElem?_eq_getElem (by omega)⟩
    rw [hb, hc] at h1
    obtain ⟨z, hcz, rfl, hw⟩ := DataW.trod_int he h1
    refine ⟨z, ?_, hw⟩
    have := congrArg (·[0]?) hcz
    simpa [List.getElem?_take, List.getElem?_drop, Value.cells] using this
  obtain ⟨ys, hyl, hy⟩ := list_choose hstep
  refine ⟨ys, ?_, hyl, ?_⟩
  · apply List.ext_getElem?
    intro i
    by_cases hi : i < n
    · rw [(hy i hi).1, List.getElem?_map, List.getElem?_eq_getElem (by omega)]
      simp [List.getD, show i < ys.length by omega]
    · rw [List.getElem?_eq_none (by omega), List.getElem?_eq_none (by simp; omega)]
  · intro y hy'
    obtain ⟨i, hi, rfl⟩ := List.getElem_of_mem hy'
    have := bounds_u8 (hy i (by omega)).2
    simpa [List.getD, hi] using this
set_option maxRecDepth 20000 in
theorem open_blockv {w : World} {base : Nat} {v : Value} {d : DataW H} {p : List MemPlace} (hv : Value.okWide Try.prog w .any base 56 v) (h : DataW.Trod enc Try.prog w 0 (fun _ => true) true 56 v d p) :
    ∃ ys : List Int, v = .agg (bs ys) ∧ ys.length = 256 ∧ Bytes ys := by
  simp only [Value.okWide, Try.underlying56] at hv
  obtain ⟨cs, rfl, hcs, _⟩ := hv
  obtain ⟨fuel, hf⟩ := h
  rw [cells56] at hcs
  obtain ⟨ys, he, hl, hb⟩ := open_list Try.underlying56 Try.underlying5 cells5 (by simpa [Value.cells] using hcs) hf
  refine ⟨ys, ?_, hl, hb⟩
  have he' : cs.toList = ys.map (Value.int .u8) := he
  rw [← Array.toArray_toList (xs := cs), he']; rfl


end
end Go.Proofs.Ytgnedbagelhcbaa
