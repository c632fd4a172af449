/-
  Plain facts on the statements' arguments: data pages and payloads, as values that came in.
-/
import Derived.Test.YtomlbkdagaldoaaGetU
import Derived.SizedLaws
import Derived.Deep.Grids
import Derived.Deep.Slices
import Derived.Lib.SmallJoins
import Derived.Carry
namespace Go.Proofs.Ytomlbkdagaldoaa
open Go.ChangeShapes Go.WideShapes Go.ChangeAt Go.RowKit
open Go.Deep
set_option linter.unusedVariables false
set_option linter.unusedSimpArgs false

theorem laidOut : laidOutB Try.prog = true := by kernel_rfl
theorem cells30 : Try.prog.cellsOf 30 = 68 := by kernel_rfl
theorem cells32 : Try.prog.cellsOf 32 = 224 := by kernel_rfl
theorem cells28 : Try.prog.cellsOf 28 = 64 := by kernel_rfl
theorem cells26 : Try.prog.cellsOf 26 = 2 := by kernel_rfl
theorem cells22 : Try.prog.cellsOf 22 = 1 := by kernel_rfl
theorem cells23 : Try.prog.cellsOf 23 = 1 := by kernel_rfl
theorem cells24 : Try.prog.cellsOf 24 = 1 := by kernel_rfl
theorem list_choose {n : Nat} {p : Nat → Int → Prop} (h : ∀ i, i < n → ∃ x, p i x) : ∃ ys : List Int, ys.length = n ∧ ∀ i, i < n → p i (ys.getD i 0) := by
  induction n with
  | zero => exact ⟨[], rfl, fun i hi => by omega⟩
  | succ n ih =>
    obtain ⟨ys, hl, hy⟩ := ih (fun i hi => h i (by omega))
    obtain ⟨x, hx⟩ := h n (by omega)
    refine ⟨ys ++ [x], by simp [hl], fun i hi => ?_⟩
    by_cases e : i < n
    · have := hy i e
      simp only [List.getD] at this ⊢
      rw [List.getElem?_append_left (by omega)]; exact this
    · have e : i = n := by omega
      subst e
      simp only [List.getD]
      rw [List.getElem?_append_right (by omega), hl]; simpa using hx
section
variable {H : Type} {enc : TypeId × Value → H}
theorem open_list {P : Program} {w : World} {base : Nat} {spare : Nat → Bool} {held : Bool} {fuel n : Nat} {t e : TypeId} {cs : List Value} {x : DataW H × List MemPlace} (ht : P.underlying t = some (.array n e)) (he : P.underlying e = some (.int .u8)) (hc : P.cellsOf e = 1) (hl : cs.length = n)
    (hf : DataW.trod enc P w base spare held fuel t cs = some x) : ∃ ys : List Int, cs = ys.map (Value.int .u8) ∧ ys.length = n ∧ Bytes ys := by
  obtain ⟨xs, m, hfu, hx, hlx, hn, hall⟩ := DataW.trod_array ht hf
  have hstep : ∀ i, i < n → ∃ z, cs[i]? = some (.int .u8 z) ∧ (Lit.int .u8 z).wf = true := by
    intro i hi
    have h1 := hall i hi
    obtain ⟨b, hb⟩ : ∃ b, xs[i]? = some b := ⟨xs[i]'(by omega), List.getElem?_eq_getElem (by omega)⟩
    rw [hb, hc] at h1
    obtain ⟨z, hcz, rfl, hw⟩ := DataW.trod_int he h1
    refine ⟨z, ?_, hw⟩
    have := congrArg (·[0]?) hcz
    simpa [List.getElem?_take, List.getElem?_drop, Value.cells] using this
  obtain ⟨ys, hyl, hy⟩ := list_choose hstep
  refine ⟨ys, ?_, hyl, ?_⟩
  · apply List.ext_getElem?
    intro i
    by_cases hi : i < n
    · rw [(hy i hi).1, List.getElem?_map, List.getElem?_eq_getElem (by omega)]
      simp [List.getD, show i < ys.length by omega]
    · rw [List.getElem?_eq_none (by omega), List.getElem?_eq_none (by simp; omega)]
  · intro y hy'
    obtain ⟨i, hi, rfl⟩ := List.getElem_of_mem hy'
    have := bounds_u8 (hy i (by omega)).2
    simpa [List.getD, hi] using this
theorem open_payv {w : World} {base : Nat} {v : Value} {d : DataW H} {p : List MemPlace} (hv : Value.okWide Try.prog w .any base 32 v) (h : DataW.Trod enc Try.prog w 0 (fun _ => true) true 32 v d p) :
    ∃ ys : List Int, v = .agg (bs ys) ∧ ys.length = 224 ∧ Bytes ys := by
  simp only [Value.okWide, Try.underlying32] at hv
  obtain ⟨cs, rfl, hcs, _⟩ := hv
  obtain ⟨fuel, hf⟩ := h
  rw [cells32] at hcs
  obtain ⟨ys, he, hl, hb⟩ := open_list Try.underlying32 Try.underlying5 cells5 (by simpa [Value.cells] using hcs) hf
  refine ⟨ys, ?_, hl, hb⟩
  have he' : cs.toList = ys.map (Value.int .u8) := he
  rw [← Array.toArray_toList (xs := cs), he']; rfl
theorem open_data {w : World} {fuel : Nat} {cs : List Value} {x : DataW H × List MemPlace} (hl : cs.length = 68) (h : DataW.trod enc Try.prog w 0 (fun _ => true) true fuel 30 cs = some x) :
    ∃ d : D, cs = d.arr.toList ∧ d.Ok := by
  cases fuel with
  | zero => simp [DataW.trod] at h
  | succ n =>
    unfold DataW.trod at h
    rw [Try.underlying30] at h
    match cs, hl with
    | c0 :: c1 :: c2 :: c3 :: rest, hl =>
      have hr : rest.length = 64 := by simpa using hl
      simp [List.mapM_cons, cells30, cells23, cells24, cells26, cells28, hr] at h
      cases t0 : DataW.trod enc Try.prog w 0 (fun _ => true) true n 23 [c0] with
      | none => simp [t0] at h
      | some x0 =>
      cases t1 : DataW.trod enc Try.prog w 0 (fun _ => true) true n 24 [c1] with
      | none => simp [t0, t1] at h
      | some x1 =>
      cases t2 : DataW.trod enc Try.prog w 0 (fun _ => true) true n 26 [c2, c3] with
      | none => simp [t0, t1, t2] at h
      | some x2 =>
      have ht : rest.take 64 = rest := List.take_of_length_le (by omega)
      rw [ht] at h
      cases t3 : DataW.trod enc Try.prog w 0 (fun _ => true) true n 28 rest with
      | none => simp [t0, t1, t2, t3] at h
      | some x3 =>
      obtain ⟨k0, e0, _, w0⟩ := DataW.trod_int Try.underlying23 t0
      obtain ⟨k1, e1, _, w1⟩ := DataW.trod_int Try.underlying24 t1
      have e0 : c0 = .int .u64 k0 := by simpa using e0
      have e1 : c1 = .int .u32 k1 := by simpa using e1
      obtain ⟨ys, e3, l3, b3⟩ := open_list Try.underlying28 Try.underlying5 cells5 hr t3
      cases n with
      | zero => simp [DataW.trod] at t2
      | succ m =>
        unfold DataW.trod at t2
        rw [Try.underlying26] at t2
        simp [List.mapM_cons, cells26, cells22, cells5] at t2
        cases t4 : DataW.trod enc Try.prog w 0 (fun _ => true) true m 22 [c2] with
        | none => simp [t4] at t2
        | some x4 =>
        cases t5 : DataW.trod enc Try.prog w 0 (fun _ => true) true m 5 [c3] with
        | none => simp [t4, t5] at t2
        | some x5 =>
        obtain ⟨k4, e4, _, w4⟩ := DataW.trod_int Try.underlying22 t4
        obtain ⟨k5, e5, _, w5⟩ := DataW.trod_int Try.underlying5 t5
        have e4 : c2 = .int .u16 k4 := by simpa using e4
        have e5 : c3 = .int .u8 k5 := by simpa using e5
        refine ⟨⟨k0, k1, k4, k5, ys⟩, ?_, ⟨bounds_u64 w0, bounds_u32 w1, bounds_u16 w4, bounds_u8 w5, l3, b3⟩⟩
        rw [e0, e1, e4, e5, e3]; rfl
theorem open_datav {w : World} {base : Nat} {v : Value} {d : DataW H} {p : List MemPlace} (hv : Value.okWide Try.prog w .any base 30 v) (h : DataW.Trod enc Try.prog w 0 (fun _ => true) true 30 v d p) :
    ∃ a : D, v = .agg a.arr ∧ a.Ok := by
  obtain ⟨cs, rfl, hsz⟩ := okWide_struct Try.underlying30 hv
  obtain ⟨fuel, hf⟩ := h
  rw [cells30] at hsz
  obtain ⟨a, he, ok⟩ := open_data (by simpa [Value.cells] using hsz) hf
  refine ⟨a, ?_, ok⟩
  have he' : cs.toList = a.arr.toList := he
  rw [← Array.toArray_toList (xs := cs), he']
end
end Go.Proofs.Ytomlbkdagaldoaa
