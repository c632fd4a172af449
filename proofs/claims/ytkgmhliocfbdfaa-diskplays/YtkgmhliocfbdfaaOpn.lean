/-
  Plain facts on the statements' arguments: calls of a disk, as values that came in: their numbers and their lists.
-/
import Derived.Test.YtkgmhliocfbdfaaDo
import Derived.SizedLaws
import Derived.Deep.Grids
import Derived.Deep.Slices
import Derived.Lib.SmallJoins
import Derived.Carry
namespace Go.Proofs.Ytkgmhliocfbdfaa
open Go.ChangeShapes Go.WideShapes Go.ChangeAt Go.RowKit
open Go.Deep
set_option linter.unusedVariables false
set_option linter.unusedSimpArgs false

/-- A call of a disk, as it came in. -/
structure Call where
  kd : Int
  b : Int
  y : Int
  fs : Value
  ks : Value
  zl : List Int
  bl : List Bool
def Call.cells (c : Call) : List Value := [.int .i64 c.kd, .int .i64 c.b, .int .u8 c.y, c.fs, c.ks]
structure Call.Ok (w : World) (c : Call) : Prop where
  kd : Wf c.kd
  b : Wf c.b
  y : 0 ≤ c.y ∧ c.y ≤ 255
  fs : Cel w c.fs (c.zl.map (.int .i64))
  zw : ∀ z ∈ c.zl, Wf z
  zl : c.zl.length * 8 ≤ 140737488355328
  ks : Cel w c.ks (c.bl.map .bool)
  bl : c.bl.length ≤ 140737488355328
theorem Call.Ok.keep {w w' : World} {c : Call} (h : c.Ok w) (hb : Below w.heap.size w w') : c.Ok w' := { h with fs := h.fs.keep hb, ks := h.ks.keep hb }
theorem cells33 : Try.prog.cellsOf 33 = 5 := by kernel_rfl
theorem cells28 : Try.prog.cellsOf 28 = 1 := by kernel_rfl
theorem cells31 : Try.prog.cellsOf 31 = 1 := by kernel_rfl
theorem cells4 : Try.prog.cellsOf 4 = 1 := by kernel_rfl
theorem bytes3 : Try.prog.bytesOf 3 = 8 := by kernel_rfl
theorem bytes4 : Try.prog.bytesOf 4 = 1 := by kernel_rfl
section
variable {H : Type} {enc : TypeId × Value → H}
theorem open_call {w : World} {fuel : Nat} {cs : List Value} {x : DataW H × List MemPlace} (h : DataW.trod enc Try.prog w 0 (fun _ => true) true fuel 33 cs = some x) (hs : (x.1.weights Try.prog 33).all (· ≤ reachBytes) = true) :
    ∃ c : Call, cs = c.cells ∧ c.Ok w := by
  cases fuel with
  | zero => simp [DataW.trod] at h
  | succ n =>
    unfold DataW.trod at h
    rw [Try.underlying33] at h
    simp only [cells33] at h
    by_cases hl : cs.length = 5
    · match cs, hl with
      | [c0, c1, c2, c3, c4], _ =>
        simp [List.mapM_cons, cells3, cells5, cells28, cells31] at h
        cases t0 : DataW.trod enc Try.prog w 0 (fun _ => true) true n 3 [c0] with
        | none => simp [t0] at h
        | some x0 =>
        cases t1 : DataW.trod enc Try.prog w 0 (fun _ => true) true n 3 [c1] with
        | none => simp [t0, t1] at h
        | some x1 =>
        cases t2 : DataW.trod enc Try.prog w 0 (fun _ => true) true n 5 [c2] with
        | none => simp [t0, t1, t2] at h
        | some x2 =>
        cases t3 : DataW.trod enc Try.prog w 0 (fun _ => true) true n 28 [c3] with
        | none => simp [t0, t1, t2, t3] at h
        | some x3 =>
        cases t4 : DataW.trod enc Try.prog w 0 (fun _ => true) true n 31 [c4] with
        | none => simp [t0, t1, t2, t3, t4] at h
        | some x4 =>
        simp [t0, t1, t2, t3, t4] at h
        subst h
        obtain ⟨k0, e0, _, w0⟩ := DataW.trod_int Try.underlying3 t0
        obtain ⟨k1, e1, _, w1⟩ := DataW.trod_int Try.underlying3 t1
        obtain ⟨k2, e2, _, w2⟩ := DataW.trod_int Try.underlying5 t2
        have hs3 : (x3.1.weights Try.prog 28).all (· ≤ reachBytes) = true := by
          rw [List.all_eq_true] at hs ⊢
          intro m hm
          refine hs m ?_
          simp [DataW.weights, Try.underlying33, DataW.weightsEach, hm]
        have hs4 : (x4.1.weights Try.prog 31).all (· ≤ reachBytes) = true := by
          rw [List.all_eq_true] at hs ⊢
          intro m hm
          refine hs m ?_
          simp [DataW.weights, Try.underlying33, DataW.weightsEach, hm]
        have r3 : ∃ zl : List Int, Cel w c3 (zl.map (.int .i64)) ∧ (∀ z ∈ zl, Wf z) ∧ zl.length * 8 ≤ 140737488355328 := by
          rcases open_ints Try.underlying28 Try.underlying3 cells3 t3 with ⟨q, _⟩ | ⟨a, len, cap, zs, q, _, hle, _, hzl, hx, hc, hw⟩
          · simp at q
            exact ⟨[], Or.inl ⟨q, rfl⟩, fun z hz => (by cases hz), by simp⟩
          · simp at q hzl
            have hlz : (zs.take len).length = len := by simp; omega
            refine ⟨zs.take len, Or.inr ⟨a, cap, by rw [q, List.length_map, hlz], fun j u hj => ?_⟩, fun z hz => hw z (List.mem_of_mem_take hz), ?_⟩
            · rw [List.getElem?_map, List.getElem?_take] at hj
              by_cases hjl : j < len
              · rw [if_pos hjl, List.getElem?_eq_getElem (by omega)] at hj
                simp at hj
                rw [hc j (by omega), ← hj]
                simp [List.getD, show j < zs.length by omega]
              · rw [if_neg hjl] at hj; simp at hj
            · rw [hx] at hs3
              simp [DataW.weights, Try.underlying28, bytes3, lits] at hs3
              have := hs3.1
              unfold reachBytes at this
              omega
        have r4 : ∃ bl : List Bool, Cel w c4 (bl.map .bool) ∧ bl.length ≤ 140737488355328 := by
          rcases open_bools Try.underlying31 Try.underlying4 cells4 t4 with ⟨q, _⟩ | ⟨a, len, cap, B, q, _, hle, _, hx, hc⟩
          · simp at q
            exact ⟨[], Or.inl ⟨q, rfl⟩, by simp⟩
          · simp at q
            refine ⟨(List.range len).map B, Or.inr ⟨a, cap, by rw [q]; simp, fun j u hj => ?_⟩, ?_⟩
            · rw [List.getElem?_map, List.getElem?_map] at hj
              by_cases hjl : j < len
              · rw [List.getElem?_range hjl] at hj
                simp at hj
                rw [hc j (by omega), ← hj]
              · rw [List.getElem?_eq_none (by simp; omega)] at hj; simp at hj
            · rw [hx] at hs4
              simp [DataW.weights, Try.underlying31, bytes4, boolRow] at hs4
              have := hs4.1
              unfold reachBytes at this
              simp
              omega
        obtain ⟨zl, a3, a3w, a3l⟩ := r3
        obtain ⟨bl, a4, a4l⟩ := r4
        simp at e0 e1 e2
        exact ⟨⟨k0, k1, k2, c3, c4, zl, bl⟩, by simp [Call.cells, e0, e1, e2], ⟨w0, w1, by have := bounds_u8 w2; exact this, a3, a3w, a3l, a4, a4l⟩⟩
    · simp [hl] at h
theorem open_callv {w : World} {base : Nat} {v : Value} {d : DataW H} {p : List MemPlace} (hv : Value.okWide Try.prog w .any base 33 v) (h : DataW.Trod enc Try.prog w 0 (fun _ => true) true 33 v d p) (hs : (d.weights Try.prog 33).all (· ≤ reachBytes) = true) :
    ∃ c : Call, v = .agg c.cells.toArray ∧ c.Ok w := by
  obtain ⟨cs, rfl, hsz⟩ := okWide_struct Try.underlying33 hv
  obtain ⟨fuel, hf⟩ := h
  obtain ⟨c, hc, ok⟩ := open_call hf hs
  refine ⟨c, ?_, ok⟩
  have hc' : cs.toList = c.cells := hc
  rw [← hc']
end
end Go.Proofs.Ytkgmhliocfbdfaa
