/-
  Plain facts on the statements' arguments: masters and blocks as values that came in.
-/
import Derived.Test.YtcbjjofckhohjaaMaw
import Derived.SizedLaws
import Derived.Deep.Grids
import Derived.Deep.Slices
import Derived.Lib.SmallJoins
import Derived.Carry
namespace Go.Proofs.Ytcbjjofckhohjaa
open Go.ChangeShapes Go.WideShapes Go.ChangeAt Go.RowKit
open Go.Deep
set_option linter.unusedVariables false
set_option linter.unusedSimpArgs false

theorem laidOut : laidOutB Try.prog = true := by kernel_rfl
theorem cells29 : Try.prog.cellsOf 29 = 256 := by kernel_rfl
theorem cells27 : Try.prog.cellsOf 27 = 9 := by kernel_rfl
theorem cells25 : Try.prog.cellsOf 25 = 4 := by kernel_rfl
theorem cells22 : Try.prog.cellsOf 22 = 1 := by kernel_rfl
theorem cells23 : Try.prog.cellsOf 23 = 1 := by kernel_rfl
theorem list_choose {n : Nat} {p : Nat → Int → Prop} (h : ∀ i, i < n → ∃ x, p i x) : ∃ ys : List Int, ys.length = n ∧ ∀ i, i < n → p i (ys.getD i 0) := by
  induction n with
  | zero => exact ⟨[], rfl, fun i hi => by omega⟩
  | succ n ih =>
    obtain ⟨ys, hl, hy⟩ := ih (fun i hi => h i (by omega))
    obtain ⟨x, hx⟩ := h n (by omega)
    refine ⟨ys ++ [x], by simp [hl], fun i hi => ?_⟩
    by_cases e : i < n
    · have := hy i e
      simp only [List.getD] at this ⊢
      rw [List.getElem?_append_left (by omega)]; exact this
    · have e : i = n := by omega
      subst e
      simp only [List.getD]
      rw [List.getElem?_append_right (by omega), hl]; simpa using hx
section
variable {H : Type} {enc : TypeId × Value → H}
theorem open_list {P : Program} {w : World} {base : Nat} {spare : Nat → Bool} {held : Bool} {fuel n : Nat} {t e : TypeId} {cs : List Value} {x : DataW H × List MemPlace} (ht : P.underlying t = some (.array n e)) (he : P.underlying e = some (.int .u8)) (hc : P.cellsOf e = 1) (hl : cs.length = n)
    (hf : DataW.trod enc P w base spare held fuel t cs = some x) : ∃ ys : List Int, cs = ys.map (Value.int .u8) ∧ ys.length = n ∧ Bytes ys := by
  obtain ⟨xs, m, hfu, hx, hlx, hn, hall⟩ := DataW.trod_array ht hf
  have hstep : ∀ i, i < n → ∃ z, cs[i]? = some (.int .u8 z) ∧ (Lit.int .u8 z).wf = true := by
    intro i hi
    have h1 := hall i hi
    obtain ⟨b, hb⟩ : ∃ b, xs[i]? = some b := ⟨xs[i]'(by omega), List.getElem?_eq_getElem (by omega)⟩
    rw [hb, hc] at h1
    obtain ⟨z, hcz, rfl, hw⟩ := DataW.trod_int he h1
    refine ⟨z, ?_, hw⟩
    have := congrArg (·[0]?) hcz
    simpa [List.getElem?_take, List.getElem?_drop, Value.cells] using this
  obtain ⟨ys, hyl, hy⟩ := list_choose hstep
  refine ⟨ys, ?_, hyl, ?_⟩
  · apply List.ext_getElem?
    intro i
    by_cases hi : i < n
    · rw [(hy i hi).1, List.getElem?_map, List.getElem?_eq_getElem (by omega)]
      simp [List.getD, show i < ys.length by omega]
    · rw [List.getElem?_eq_none (by omega), List.getElem?_eq_none (by simp; omega)]
  · intro y hy'
    obtain ⟨i, hi, rfl⟩ := List.getElem_of_mem hy'
    have := bounds_u8 (hy i (by omega)).2
    simpa [List.getD, hi] using this
theorem open_blockv {w : World} {base : Nat} {v : Value} {d : DataW H} {p : List MemPlace} (hv : Value.okWide Try.prog w .any base 29 v) (h : DataW.Trod enc Try.prog w 0 (fun _ => true) true 29 v d p) :
    ∃ ys : List Int, v = .agg (bs ys) ∧ ys.length = 256 ∧ Bytes ys := by
  simp only [Value.okWide, Try.underlying29] at hv
  obtain ⟨cs, rfl, hcs, _⟩ := hv
  obtain ⟨fuel, hf⟩ := h
  rw [cells29] at hcs
  obtain ⟨ys, he, hl, hb⟩ := open_list Try.underlying29 Try.underlying5 cells5 (by simpa [Value.cells] using hcs) hf
  refine ⟨ys, ?_, hl, hb⟩
  have he' : cs.toList = ys.map (Value.int .u8) := he
  rw [← Array.toArray_toList (xs := cs), he']; rfl


theorem open_cfg {w : World} {fuel : Nat} {cs : List Value} {x : DataW H × List MemPlace} (h : DataW.trod enc Try.prog w 0 (fun _ => true) true fuel 25 cs = some x) :
    ∃ (a b c d : Int), cs = [.int .i64 a, .int .i64 b, .int .i64 c, .int .u32 d] ∧ (-9223372036854775808 ≤ a ∧ a ≤ 9223372036854775807) ∧ (-9223372036854775808 ≤ b ∧ b ≤ 9223372036854775807) ∧ (-9223372036854775808 ≤ c ∧ c ≤ 9223372036854775807) ∧ (0 ≤ d ∧ d ≤ 4294967295) := by
  cases fuel with
  | zero => simp [DataW.trod] at h
  | succ n =>
    unfold DataW.trod at h
    rw [Try.underlying25] at h
    simp only [cells25] at h
    by_cases hl : cs.length = 4
    · match cs, hl with
      | [c0, c1, c2, c3], _ =>
        simp [List.mapM_cons, cells3, cells23] at h
        cases t0 : DataW.trod enc Try.prog w 0 (fun _ => true) true n 3 [c0] with
        | none => simp [t0] at h
        | some x0 =>
        cases t1 : DataW.trod enc Try.prog w 0 (fun _ => true) true n 3 [c1] with
        | none => simp [t0, t1] at h
        | some x1 =>
        cases t2 : DataW.trod enc Try.prog w 0 (fun _ => true) true n 3 [c2] with
        | none => simp [t0, t1, t2] at h
        | some x2 =>
        cases t3 : DataW.trod enc Try.prog w 0 (fun _ => true) true n 23 [c3] with
        | none => simp [t0, t1, t2, t3] at h
        | some x3 =>
        obtain ⟨k0, e0, _, u0⟩ := DataW.trod_int Try.underlying3 t0
        obtain ⟨k1, e1, _, u1⟩ := DataW.trod_int Try.underlying3 t1
        obtain ⟨k2, e2, _, u2⟩ := DataW.trod_int Try.underlying3 t2
        obtain ⟨k3, e3, _, u3⟩ := DataW.trod_int Try.underlying23 t3
        simp at e0 e1 e2 e3
        exact ⟨k0, k1, k2, k3, by rw [e0, e1, e2, e3], bounds_i64 u0, bounds_i64 u1, bounds_i64 u2, bounds_u32 u3⟩
    · simp [hl] at h
theorem open_mas {w : World} {fuel : Nat} {cs : List Value} {x : DataW H × List MemPlace} (h : DataW.trod enc Try.prog w 0 (fun _ => true) true fuel 27 cs = some x) :
    ∃ m : M, cs = (mcells m).toList ∧ m.Fit := by
  cases fuel with
  | zero => simp [DataW.trod] at h
  | succ n =>
    unfold DataW.trod at h
    rw [Try.underlying27] at h
    simp only [cells27] at h
    by_cases hl : cs.length = 9
    · match cs, hl with
      | [c0, c1, c2, c3, c4, c5, c6, c7, c8], _ =>
        simp [List.mapM_cons, cells22, cells23, cells25] at h
        cases t0 : DataW.trod enc Try.prog w 0 (fun _ => true) true n 22 [c0] with
        | none => simp [t0] at h
        | some x0 =>
        cases t1 : DataW.trod enc Try.prog w 0 (fun _ => true) true n 23 [c1] with
        | none => simp [t0, t1] at h
        | some x1 =>
        cases t2 : DataW.trod enc Try.prog w 0 (fun _ => true) true n 23 [c2] with
        | none => simp [t0, t1, t2] at h
        | some x2 =>
        cases t3 : DataW.trod enc Try.prog w 0 (fun _ => true) true n 22 [c3] with
        | none => simp [t0, t1, t2, t3] at h
        | some x3 =>
        cases t4 : DataW.trod enc Try.prog w 0 (fun _ => true) true n 23 [c4] with
        | none => simp [t0, t1, t2, t3, t4] at h
        | some x4 =>
        cases t5 : DataW.trod enc Try.prog w 0 (fun _ => true) true n 25 [c5, c6, c7, c8] with
        | none => simp [t0, t1, t2, t3, t4, t5] at h
        | some x5 =>
        obtain ⟨k0, e0, _, u0⟩ := DataW.trod_int Try.underlying22 t0
        obtain ⟨k1, e1, _, u1⟩ := DataW.trod_int Try.underlying23 t1
        obtain ⟨k2, e2, _, u2⟩ := DataW.trod_int Try.underlying23 t2
        obtain ⟨k3, e3, _, u3⟩ := DataW.trod_int Try.underlying22 t3
        obtain ⟨k4, e4, _, u4⟩ := DataW.trod_int Try.underlying23 t4
        obtain ⟨k5, k6, k7, k8, e5, u5, u6, u7, u8⟩ := open_cfg t5
        simp at e0 e1 e2 e3 e4
        exact ⟨⟨k0, k1, k2, k3, k4, k5, k6, k7, k8⟩, by rw [e0, e1, e2, e3, e4, e5], ⟨bounds_u64 u0, bounds_u32 u1, bounds_u32 u2, bounds_u64 u3, bounds_u32 u4, u5, u6, u7, u8⟩⟩
    · simp [hl] at h
theorem open_masv {w : World} {base : Nat} {v : Value} {d : DataW H} {p : List MemPlace} (hv : Value.okWide Try.prog w .any base 27 v) (h : DataW.Trod enc Try.prog w 0 (fun _ => true) true 27 v d p) :
    ∃ m : M, v = .agg (mcells m) ∧ m.Fit := by
  obtain ⟨cs, rfl, hsz⟩ := okWide_struct Try.underlying27 hv
  obtain ⟨fuel, hf⟩ := h
  obtain ⟨m, hc, hu⟩ := open_mas hf
  refine ⟨m, ?_, hu⟩
  have hc' : cs.toList = (mcells m).toList := hc
  rw [← Array.toArray_toList (xs := cs), hc']
end
end Go.Proofs.Ytcbjjofckhohjaa
