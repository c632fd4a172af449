/-
  Plain facts on the statements' arguments: chunks and blocks as values that came in.
-/
import Derived.Test.YtbpaffjoedihbaaRUnp
import Derived.SizedLaws
import Derived.Deep.Grids
import Derived.Deep.Slices
import Derived.Lib.SmallJoins
import Derived.Carry
namespace Go.Proofs.Ytbpaffjoedihbaa
open Go.ChangeShapes Go.WideShapes Go.ChangeAt Go.RowKit
open Go.Deep
set_option linter.unusedVariables false
set_option linter.unusedSimpArgs false

theorem laidOut : laidOutB Try.prog = true := by kernel_rfl
theorem cells27 : Try.prog.cellsOf 27 = 256 := by kernel_rfl
theorem cells25 : Try.prog.cellsOf 25 = 4 := by kernel_rfl
theorem cells22 : Try.prog.cellsOf 22 = 1 := by kernel_rfl
theorem cells23 : Try.prog.cellsOf 23 = 1 := by kernel_rfl
theorem cells9 : Try.prog.cellsOf 9 = 1 := by kernel_rfl
/-- A chunk that came in. -/
structure Chu (e n o : Int) (s : ByteArray) : Prop where
  epoch : 0 ≤ e ∧ e ≤ 4294967295
  number : 0 ≤ n ∧ n ≤ 4294967295
  offset : 0 ≤ o ∧ o ≤ 18446744073709551615
  size : s.size ≤ maxLen
theorem list_choose {n : Nat} {p : Nat → Int → Prop} (h : ∀ i, i < n → ∃ x, p i x) : ∃ ys : List Int, ys.length = n ∧ ∀ i, i < n → p i (ys.getD i 0) := by
  induction n with
  | zero => exact ⟨[], rfl, fun i hi => by omega⟩
  | succ n ih =>
    obtain ⟨ys, hl, hy⟩ := ih (fun i hi => h i (by omega))
    obtain ⟨x, hx⟩ := h n (by omega)
    refine ⟨ys ++ [x], by simp [hl], fun i hi => ?_⟩
    by_cases e : i < n
    · have := hy i e
      simp only [List.getD] at this ⊢
      rw [List.getElem?_append_left (by omega)]; exact this
    · have e : i = n := by omega
      subst e
      simp only [List.getD]
      rw [List.getElem?_append_right (by omega), hl]; simpa using hx
section
variable {H : Type} {enc : TypeId × Value → H}
theorem open_list {P : Program} {w : World} {base : Nat} {spare : Nat → Bool} {held : Bool} {fuel n : Nat} {t e : TypeId} {cs : List Value} {x : DataW H × List MemPlace} (ht : P.underlying t = some (.array n e)) (he : P.underlying e = some (.int .u8)) (hc : P.cellsOf e = 1) (hl : cs.length = n)
    (hf : DataW.trod enc P w base spare held fuel t cs = some x) : ∃ ys : List Int, cs = ys.map (Value.int .u8) ∧ ys.length = n ∧ Bytes ys := by
  obtain ⟨xs, m, hfu, hx, hlx, hn, hall⟩ := DataW.trod_array ht hf
  have hstep : ∀ i, i < n → ∃ z, cs[i]? = some (.int .u8 z) ∧ (Lit.int .u8 z).wf = true := by
    intro i hi
    have h1 := hall i hi
    obtain ⟨b, hb⟩ : ∃ b, xs[i]? = some b := ⟨xs[i]'(by omega), List.getElem?_eq_getElem (by omega)⟩
    rw [hb, hc] at h1
    obtain ⟨z, hcz, rfl, hw⟩ := DataW.trod_int he h1
    refine ⟨z, ?_, hw⟩
    have := congrArg (·[0]?) hcz
    simpa [List.getElem?_take, List.getElem?_drop, Value.cells] using this
  obtain ⟨ys, hyl, hy⟩ := list_choose hstep
  refine ⟨ys, ?_, hyl, ?_⟩
  · apply List.ext_getElem?
    intro i
    by_cases hi : i < n
    · rw [(hy i hi).1, List.getElem?_map, List.getElem?_eq_getElem (by omega)]
      simp [List.getD, show i < ys.length by omega]
    · rw [List.getElem?_eq_none (by omega), List.getElem?_eq_none (by simp; omega)]
  · intro y hy'
    obtain ⟨i, hi, rfl⟩ := List.getElem_of_mem hy'
    have := bounds_u8 (hy i (by omega)).2
    simpa [List.getD, hi] using this
theorem open_blockv {w : World} {base : Nat} {v : Value} {d : DataW H} {p : List MemPlace} (hv : Value.okWide Try.prog w .any base 27 v) (h : DataW.Trod enc Try.prog w 0 (fun _ => true) true 27 v d p) :
    ∃ ys : List Int, v = .agg (bs ys) ∧ ys.length = 256 ∧ Bytes ys := by
  simp only [Value.okWide, Try.underlying27] at hv
  obtain ⟨cs, rfl, hcs, _⟩ := hv
  obtain ⟨fuel, hf⟩ := h
  rw [cells27] at hcs
  obtain ⟨ys, he, hl, hb⟩ := open_list Try.underlying27 Try.underlying5 cells5 (by simpa [Value.cells] using hcs) hf
  refine ⟨ys, ?_, hl, hb⟩
  have he' : cs.toList = ys.map (Value.int .u8) := he
  rw [← Array.toArray_toList (xs := cs), he']; rfl

theorem open_chunk {w : World} {fuel : Nat} {cs : List Value} {x : DataW H × List MemPlace} (h : DataW.trod enc Try.prog w 0 (fun _ => true) true fuel 25 cs = some x) :
    ∃ (e n o : Int) (s : ByteArray), cs = [.int .u32 e, .int .u32 n, .int .u64 o, .string s] ∧ Chu e n o s := by
  cases fuel with
  | zero => simp [DataW.trod] at h
  | succ n =>
    unfold DataW.trod at h
    rw [Try.underlying25] at h
    simp only [cells25] at h
    by_cases hl : cs.length = 4
    · match cs, hl with
      | [c0, c1, c2, c3], _ =>
        simp [List.mapM_cons, cells22, cells23, cells9] at h
        cases t0 : DataW.trod enc Try.prog w 0 (fun _ => true) true n 22 [c0] with
        | none => simp [t0] at h
        | some x0 =>
        cases t1 : DataW.trod enc Try.prog w 0 (fun _ => true) true n 22 [c1] with
        | none => simp [t0, t1] at h
        | some x1 =>
        cases t2 : DataW.trod enc Try.prog w 0 (fun _ => true) true n 23 [c2] with
        | none => simp [t0, t1, t2] at h
        | some x2 =>
        cases t3 : DataW.trod enc Try.prog w 0 (fun _ => true) true n 9 [c3] with
        | none => simp [t0, t1, t2, t3] at h
        | some x3 =>
        obtain ⟨k0, e0, _, u0⟩ := DataW.trod_int Try.underlying22 t0
        obtain ⟨k1, e1, _, u1⟩ := DataW.trod_int Try.underlying22 t1
        obtain ⟨k2, e2, _, u2⟩ := DataW.trod_int Try.underlying23 t2
        obtain ⟨k3, e3, _, u3⟩ := DataW.trod_string Try.underlying9 t3
        simp at e0 e1 e2 e3
        exact ⟨k0, k1, k2, k3, by rw [e0, e1, e2, e3], ⟨bounds_u32 u0, bounds_u32 u1, bounds_u64 u2, u3⟩⟩
    · simp [hl] at h
theorem open_chunkv {w : World} {base : Nat} {v : Value} {d : DataW H} {p : List MemPlace} (hv : Value.okWide Try.prog w .any base 25 v) (h : DataW.Trod enc Try.prog w 0 (fun _ => true) true 25 v d p) :
    ∃ (e n o : Int) (s : ByteArray), v = .agg #[.int .u32 e, .int .u32 n, .int .u64 o, .string s] ∧ Chu e n o s := by
  obtain ⟨cs, rfl, hsz⟩ := okWide_struct Try.underlying25 hv
  obtain ⟨fuel, hf⟩ := h
  obtain ⟨e, n, o, s, hc, hu⟩ := open_chunk hf
  refine ⟨e, n, o, s, ?_, hu⟩
  have hc' : cs.toList = [.int .u32 e, .int .u32 n, .int .u64 o, .string s] := hc
  show Value.agg cs = Value.agg [Value.int .u32 e, .int .u32 n, .int .u64 o, .string s].toArray
  rw [← hc']
end
end Go.Proofs.Ytbpaffjoedihbaa
