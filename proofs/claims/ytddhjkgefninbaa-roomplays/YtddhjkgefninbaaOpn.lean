/-
  Plain facts on the statements' arguments: records and undo pages, as values that came in.
-/
import Derived.Test.YtddhjkgefninbaaLaw
import Derived.SizedLaws
import Derived.Deep.Grids
import Derived.Deep.Slices
import Derived.Lib.SmallJoins
import Derived.Carry
namespace Go.Proofs.Ytddhjkgefninbaa
open Go.ChangeShapes Go.WideShapes Go.ChangeAt Go.RowKit
open Go.Deep
set_option linter.unusedVariables false
set_option linter.unusedSimpArgs false
set_option maxRecDepth 20000

theorem laid : laidOutB Try.prog = true := by kernel_rfl
theorem cells50 : Try.prog.cellsOf 50 = 6 := by kernel_rfl
theorem cells33 : Try.prog.cellsOf 33 = 2 := by kernel_rfl
theorem cells48 : Try.prog.cellsOf 48 = 2 := by kernel_rfl
theorem cells45 : Try.prog.cellsOf 45 = 1 := by kernel_rfl
theorem cells46 : Try.prog.cellsOf 46 = 1 := by kernel_rfl
theorem cells30 : Try.prog.cellsOf 30 = 1 := by kernel_rfl
theorem cells31 : Try.prog.cellsOf 31 = 1 := by kernel_rfl
theorem cells9 : Try.prog.cellsOf 9 = 1 := by kernel_rfl
theorem cells5 : Try.prog.cellsOf 5 = 1 := by kernel_rfl
theorem cells4 : Try.prog.cellsOf 4 = 1 := by kernel_rfl
section
variable {H : Type} {enc : TypeId × Value → H}
theorem open_ref {w : World} {fuel : Nat} {c0 c1 : Value} {x : DataW H × List MemPlace} (h : DataW.trod enc Try.prog w 0 (fun _ => true) true fuel 48 [c0, c1] = some x) :
    ∃ a b : Int, c0 = .int .u16 a ∧ c1 = .int .u8 b := by
  cases fuel with
  | zero => simp [DataW.trod] at h
  | succ n =>
    unfold DataW.trod at h
    rw [Try.underlying48] at h
    simp [List.mapM_cons, cells48, cells45, cells5] at h
    cases t0 : DataW.trod enc Try.prog w 0 (fun _ => true) true n 45 [c0] with
    | none => simp [t0] at h
    | some x0 =>
    cases t1 : DataW.trod enc Try.prog w 0 (fun _ => true) true n 5 [c1] with
    | none => simp [t0, t1] at h
    | some x1 =>
    obtain ⟨k0, e0, _⟩ := DataW.trod_int Try.underlying45 t0
    obtain ⟨k1, e1, _⟩ := DataW.trod_int Try.underlying5 t1
    simp at e0 e1
    exact ⟨k0, k1, e0, e1⟩
theorem open_old {w : World} {fuel : Nat} {cs : List Value} {x : DataW H × List MemPlace} (h : DataW.trod enc Try.prog w 0 (fun _ => true) true fuel 50 cs = some x) :
    ∃ o : O, cs = o.cells := by
  cases fuel with
  | zero => simp [DataW.trod] at h
  | succ n =>
    unfold DataW.trod at h
    rw [Try.underlying50] at h
    simp only [cells50] at h
    by_cases hl : cs.length = 6
    · match cs, hl with
      | [c0, c1, c2, c3, c4, c5], _ =>
        simp [List.mapM_cons, cells4, cells45, cells46, cells48, cells9] at h
        cases t0 : DataW.trod enc Try.prog w 0 (fun _ => true) true n 4 [c0] with
        | none => simp [t0] at h
        | some x0 =>
        cases t1 : DataW.trod enc Try.prog w 0 (fun _ => true) true n 45 [c1] with
        | none => simp [t0, t1] at h
        | some x1 =>
        cases t2 : DataW.trod enc Try.prog w 0 (fun _ => true) true n 46 [c2] with
        | none => simp [t0, t1, t2] at h
        | some x2 =>
        cases t3 : DataW.trod enc Try.prog w 0 (fun _ => true) true n 48 [c3, c4] with
        | none => simp [t0, t1, t2, t3] at h
        | some x3 =>
        cases t4 : DataW.trod enc Try.prog w 0 (fun _ => true) true n 9 [c5] with
        | none => simp [t0, t1, t2, t3, t4] at h
        | some x4 =>
        obtain ⟨k0, e0, _⟩ := DataW.trod_bool Try.underlying4 t0
        obtain ⟨k1, e1, _⟩ := DataW.trod_int Try.underlying45 t1
        obtain ⟨k2, e2, _⟩ := DataW.trod_int Try.underlying46 t2
        obtain ⟨k3, k4, e3, e4⟩ := open_ref t3
        obtain ⟨k5, e5, _⟩ := DataW.trod_string Try.underlying9 t4
        simp at e0 e1 e2 e5
        exact ⟨⟨k0, k1, k2, k3, k4, k5⟩, by simp [O.cells, e0, e1, e2, e3, e4, e5]⟩
    · simp [hl] at h
theorem open_oldv {w : World} {base : Nat} {v : Value} {d : DataW H} {p : List MemPlace} (hv : Value.okWide Try.prog w .any base 50 v) (h : DataW.Trod enc Try.prog w 0 (fun _ => true) true 50 v d p) (hs : (d.weights Try.prog 50).all (· ≤ reachBytes) = true) :
    ∃ o : O, v = .agg o.arr := by
  obtain ⟨cs, rfl, hsz⟩ := okWide_struct Try.underlying50 hv
  obtain ⟨fuel, hf⟩ := h
  obtain ⟨o, hc⟩ := open_old hf
  refine ⟨o, ?_⟩
  have hc' : cs.toList = o.cells := hc
  show Value.agg cs = Value.agg o.cells.toArray
  rw [← hc']
theorem open_olds {w : World} {fuel : Nat} {c : Value} {x : DataW H × List MemPlace} (hf : DataW.trod enc Try.prog w 0 (fun _ => true) true fuel 31 [c] = some x) :
    ∃ os : List O, Olds w c os := by
  rcases open_slice Try.underlying31 hf with ⟨q, _⟩ | ⟨a, len, cap, m, n, D, Pl, q, _, hle, _, hm, hx, hel⟩
  · exact ⟨[], Or.inl ⟨by simpa using q, rfl⟩⟩
  · have q' : c = .slice (some a) len cap := by simpa using q
    subst q'
    simp only [if_true] at hm
    have hc : ∀ i, ∃ o : O, i < len → ∀ j u, o.cells[j]? = some u → w.cell? ((a.add (i * 6)).add j) = some u := fun i => by
      by_cases hi : i < len
      · obtain ⟨cs', h1, h2⟩ := hel i (by omega)
        rw [cells50] at h1
        obtain ⟨o, rfl⟩ := open_old h2
        obtain ⟨_, hl6, hcell⟩ := World.cells?_some h1
        refine ⟨o, fun _ j u hj => ?_⟩
        have hj6 : j < 6 := by
          have := (List.getElem?_eq_some_iff.1 hj).1
          simpa [O.cells] using this
        rw [hcell j hj6]; exact hj
      · exact ⟨O.zero, fun q => absurd q hi⟩
    obtain ⟨f, hf'⟩ := Classical.axiomOfChoice hc
    refine ⟨(List.range len).map f, Or.inr ⟨a, cap, by simp, fun j u hj => ?_⟩⟩
    rw [flat_get] at hj
    cases hq : ((List.range len).map f)[j / 6]? with
    | none => rw [hq] at hj; simp at hj
    | some o =>
      rw [hq] at hj
      have hlt : j / 6 < len := by have := (List.getElem?_eq_some_iff.1 hq).1; simpa using this
      have ho : f (j / 6) = o := by
        rw [List.getElem?_map, List.getElem?_range hlt] at hq
        simpa using hq
      have := hf' (j / 6) hlt (j % 6) u (by rw [ho]; exact hj)
      rw [add_add, show j / 6 * 6 + j % 6 = j by omega] at this
      exact this
theorem open_undov {w : World} {base : Nat} {v : Value} {d : DataW H} {p : List MemPlace} (hv : Value.okWide Try.prog w .any base 33 v) (h : DataW.Trod enc Try.prog w 0 (fun _ => true) true 33 v d p) (hs : (d.weights Try.prog 33).all (· ≤ reachBytes) = true) :
    ∃ (lsn : Int) (c : Value) (os : List O), v = .agg #[.int .u64 lsn, c] ∧ Olds w c os := by
  obtain ⟨cs, rfl, hsz⟩ := okWide_struct Try.underlying33 hv
  obtain ⟨fuel, hf⟩ := h
  have hc : ∃ (lsn : Int) (c : Value) (os : List O), cs.toList = [.int .u64 lsn, c] ∧ Olds w c os := by
    have hf' : DataW.trod enc Try.prog w 0 (fun _ => true) true fuel 33 cs.toList = some (d, p) := hf
    generalize cs.toList = l at hf'
    cases fuel with
    | zero => simp [DataW.trod] at hf'
    | succ n =>
      unfold DataW.trod at hf'
      rw [Try.underlying33] at hf'
      simp only [cells33] at hf'
      by_cases hl : l.length = 2
      · match l, hl with
        | [c0, c1], _ =>
          simp [List.mapM_cons, cells30, cells31] at hf'
          cases t0 : DataW.trod enc Try.prog w 0 (fun _ => true) true n 30 [c0] with
          | none => simp [t0] at hf'
          | some x0 =>
          cases t1 : DataW.trod enc Try.prog w 0 (fun _ => true) true n 31 [c1] with
          | none => simp [t0, t1] at hf'
          | some x1 =>
          obtain ⟨k0, e0, _⟩ := DataW.trod_int Try.underlying30 t0
          simp at e0
          obtain ⟨os, ho⟩ := open_olds t1
          exact ⟨k0, c1, os, by rw [e0], ho⟩
      · simp [hl] at hf'
  obtain ⟨lsn, c, os, h1, h2⟩ := hc
  refine ⟨lsn, c, os, ?_, h2⟩
  show Value.agg cs = Value.agg [Value.int .u64 lsn, c].toArray
  rw [← h1]
end
end Go.Proofs.Ytddhjkgefninbaa
