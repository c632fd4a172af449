/-
  Proved here: a list of Ops of the statements on rooms, as values that came in.
-/
import Derived.Test.YtddhjkgefninbaaRar
import Derived.SizedLaws
import Derived.Deep.Slices
import Derived.ChangeSlices
namespace Go.Proofs.Ytddhjkgefninbaa
open Go.ChangeShapes Go.WideShapes Go.ChangeAt Go.RowKit
open Go.Deep
set_option linter.unusedVariables false
set_option linter.unusedSimpArgs false
set_option maxRecDepth 20000

/-- A call. -/
structure Cal where
  kd : Int
  no : Int
  lsn : Int
  v : Value
  os : List O
def Cal.cells (c : Cal) : List Value := [.int .i64 c.kd, .int .i64 c.no, .int .u64 c.lsn, c.v]
def Cal.Ok (w : World) (c : Cal) : Prop := Olds w c.v c.os ∧ (∀ o ∈ c.os, o.Fits) ∧ (Lit.int .i64 c.no).wf = true
theorem cells35 : Try.prog.cellsOf 35 = 4 := by kernel_rfl
theorem cells3 : Try.prog.cellsOf 3 = 1 := by kernel_rfl
theorem bytes35 : Try.prog.bytesOf 35 = 48 := by kernel_rfl
section
variable {H : Type} {enc : TypeId × Value → H}
theorem open_refF {w : World} {fuel : Nat} {c0 c1 : Value} {x : DataW H × List MemPlace} (h : DataW.trod enc Try.prog w 0 (fun _ => true) true fuel 48 [c0, c1] = some x) :
    ∃ a b : Int, c0 = .int .u16 a ∧ c1 = .int .u8 b ∧ (0 ≤ a ∧ a ≤ 65535) ∧ (0 ≤ b ∧ b ≤ 255) := by
  cases fuel with
  | zero => simp [DataW.trod] at h
  | succ n =>
    unfold DataW.trod at h
    rw [Try.underlying48] at h
    simp [List.mapM_cons, cells48, cells45, cells5] at h
    cases t0 : DataW.trod enc Try.prog w 0 (fun _ => true) true n 45 [c0] with
    | none => simp [t0] at h
    | some x0 =>
    cases t1 : DataW.trod enc Try.prog w 0 (fun _ => true) true n 5 [c1] with
    | none => simp [t0, t1] at h
    | some x1 =>
    obtain ⟨k0, e0, _, w0⟩ := DataW.trod_int Try.underlying45 t0
    obtain ⟨k1, e1, _, w1⟩ := DataW.trod_int Try.underlying5 t1
    simp at e0 e1
    exact ⟨k0, k1, e0, e1, bounds_u16 w0, bounds_u8 w1⟩
theorem open_oldF {w : World} {fuel : Nat} {cs : List Value} {x : DataW H × List MemPlace} (h : DataW.trod enc Try.prog w 0 (fun _ => true) true fuel 50 cs = some x) :
    ∃ o : O, cs = o.cells ∧ o.Fits := by
  cases fuel with
  | zero => simp [DataW.trod] at h
  | succ n =>
    unfold DataW.trod at h
    rw [Try.underlying50] at h
    simp only [cells50] at h
    by_cases hl : cs.length = 6
    · match cs, hl with
      | [c0, c1, c2, c3, c4, c5], _ =>
        simp [List.mapM_cons, cells4, cells45, cells46, cells48, cells9] at h
        cases t0 : DataW.trod enc Try.prog w 0 (fun _ => true) true n 4 [c0] with
        | none => simp [t0] at h
        | some x0 =>
        cases t1 : DataW.trod enc Try.prog w 0 (fun _ => true) true n 45 [c1] with
        | none => simp [t0, t1] at h
        | some x1 =>
        cases t2 : DataW.trod enc Try.prog w 0 (fun _ => true) true n 46 [c2] with
        | none => simp [t0, t1, t2] at h
        | some x2 =>
        cases t3 : DataW.trod enc Try.prog w 0 (fun _ => true) true n 48 [c3, c4] with
        | none => simp [t0, t1, t2, t3] at h
        | some x3 =>
        cases t4 : DataW.trod enc Try.prog w 0 (fun _ => true) true n 9 [c5] with
        | none => simp [t0, t1, t2, t3, t4] at h
        | some x4 =>
        obtain ⟨k0, e0, _⟩ := DataW.trod_bool Try.underlying4 t0
        obtain ⟨k1, e1, _, w1⟩ := DataW.trod_int Try.underlying45 t1
        obtain ⟨k2, e2, _, w2⟩ := DataW.trod_int Try.underlying46 t2
        obtain ⟨k3, k4, e3, e4, w3, w4⟩ := open_refF t3
        obtain ⟨k5, e5, _⟩ := DataW.trod_string Try.underlying9 t4
        simp at e0 e1 e2 e5
        exact ⟨⟨k0, k1, k2, k3, k4, k5⟩, by simp [O.cells, e0, e1, e2, e3, e4, e5], ⟨bounds_u16 w1, bounds_u32 w2, w3, w4⟩⟩
    · simp [hl] at h
theorem open_oldsF {w : World} {fuel : Nat} {c : Value} {x : DataW H × List MemPlace} (hf : DataW.trod enc Try.prog w 0 (fun _ => true) true fuel 31 [c] = some x) :
    ∃ os : List O, Olds w c os ∧ ∀ o ∈ os, o.Fits := by
  rcases open_slice Try.underlying31 hf with ⟨q, _⟩ | ⟨a, len, cap, m, n, D, Pl, q, _, hle, _, hm, hx, hel⟩
  · exact ⟨[], Or.inl ⟨by simpa using q, rfl⟩, fun o ho => (by cases ho)⟩
  · have q' : c = .slice (some a) len cap := by simpa using q
    subst q'
    simp only [if_true] at hm
    have hc : ∀ i, ∃ o : O, o.Fits ∧ (i < len → ∀ j u, o.cells[j]? = some u → w.cell? ((a.add (i * 6)).add j) = some u) := fun i => by
      by_cases hi : i < len
      · obtain ⟨cs', h1, h2⟩ := hel i (by omega)
        rw [cells50] at h1
        obtain ⟨o, rfl, hof⟩ := open_oldF h2
        obtain ⟨_, hl6, hcell⟩ := World.cells?_some h1
        refine ⟨o, hof, fun _ j u hj => ?_⟩
        have hj6 : j < 6 := by
          have := (List.getElem?_eq_some_iff.1 hj).1
          simpa [O.cells] using this
        rw [hcell j hj6]; exact hj
      · exact ⟨O.zero, ⟨by decide, by decide, by decide, by decide⟩, fun q => absurd q hi⟩
    obtain ⟨f, hf'⟩ := Classical.axiomOfChoice hc
    refine ⟨(List.range len).map f, Or.inr ⟨a, cap, by simp, fun j u hj => ?_⟩, fun o ho => by obtain ⟨i, _, rfl⟩ := List.mem_map.1 ho; exact (hf' i).1⟩
    rw [flat_get] at hj
    cases hq : ((List.range len).map f)[j / 6]? with
    | none => rw [hq] at hj; simp at hj
    | some o =>
      rw [hq] at hj
      have hlt : j / 6 < len := by have := (List.getElem?_eq_some_iff.1 hq).1; simpa using this
      have ho : f (j / 6) = o := by
        rw [List.getElem?_map, List.getElem?_range hlt] at hq
        simpa using hq
      have := (hf' (j / 6)).2 hlt (j % 6) u (by rw [ho]; exact hj)
      rw [add_add, show j / 6 * 6 + j % 6 = j by omega] at this
      exact this
theorem open_undoF {w : World} {fuel : Nat} {c0 c1 : Value} {x : DataW H × List MemPlace} (hf' : DataW.trod enc Try.prog w 0 (fun _ => true) true fuel 33 [c0, c1] = some x) :
    ∃ (lsn : Int) (os : List O), c0 = .int .u64 lsn ∧ Olds w c1 os ∧ ∀ o ∈ os, o.Fits := by
  cases fuel with
  | zero => simp [DataW.trod] at hf'
  | succ n =>
    unfold DataW.trod at hf'
    rw [Try.underlying33] at hf'
    simp [List.mapM_cons, cells33, cells30, cells31] at hf'
    cases t0 : DataW.trod enc Try.prog w 0 (fun _ => true) true n 30 [c0] with
    | none => simp [t0] at hf'
    | some x0 =>
    cases t1 : DataW.trod enc Try.prog w 0 (fun _ => true) true n 31 [c1] with
    | none => simp [t0, t1] at hf'
    | some x1 =>
    obtain ⟨k0, e0, _⟩ := DataW.trod_int Try.underlying30 t0
    simp at e0
    obtain ⟨os, ho, hof⟩ := open_oldsF t1
    exact ⟨k0, os, e0, ho, hof⟩
theorem open_cal {w : World} {fuel : Nat} {cs : List Value} {x : DataW H × List MemPlace} (h : DataW.trod enc Try.prog w 0 (fun _ => true) true fuel 35 cs = some x) :
    ∃ c : Cal, cs = c.cells ∧ c.Ok w := by
  cases fuel with
  | zero => simp [DataW.trod] at h
  | succ n =>
    unfold DataW.trod at h
    rw [Try.underlying35] at h
    simp only [cells35] at h
    by_cases hl : cs.length = 4
    · match cs, hl with
      | [c0, c1, c2, c3], _ =>
        simp [List.mapM_cons, cells3, cells33] at h
        cases t0 : DataW.trod enc Try.prog w 0 (fun _ => true) true n 3 [c0] with
        | none => simp [t0] at h
        | some x0 =>
        cases t1 : DataW.trod enc Try.prog w 0 (fun _ => true) true n 3 [c1] with
        | none => simp [t0, t1] at h
        | some x1 =>
        cases t2 : DataW.trod enc Try.prog w 0 (fun _ => true) true n 33 [c2, c3] with
        | none => simp [t0, t1, t2] at h
        | some x2 =>
        obtain ⟨k0, e0, _⟩ := DataW.trod_int Try.underlying3 t0
        obtain ⟨k1, e1, _, w1⟩ := DataW.trod_int Try.underlying3 t1
        obtain ⟨lsn, os, e2, ho, hof⟩ := open_undoF t2
        simp at e0 e1
        exact ⟨⟨k0, k1, lsn, c3, os⟩, by simp [Cal.cells, e0, e1, e2], ho, hof, w1⟩
    · simp [hl] at h
/-- A list of calls that came in. -/
def Cals (w : World) (v : Value) (cs : List Cal) : Prop := ∃ (oa : Option Addr) (cap : Nat), v = .slice oa cs.length cap ∧ cs.length ≤ 140737488355328 ∧ ∀ i, i < cs.length → ∃ (a : Addr) (c : Cal), oa = some a ∧ cs[i]? = some c ∧ c.Ok w ∧ ∀ j u, c.cells[j]? = some u → w.cell? ((a.add (i * 4)).add j) = some u
theorem open_cals {w : World} {base : Nat} {v : Value} {d : DataW H} {p : List MemPlace} (hv : Value.okWide Try.prog w .any base 22 v) (h : DataW.Trod enc Try.prog w 0 (fun _ => true) true 22 v d p) (hs : (d.weights Try.prog 22).all (· ≤ reachBytes) = true) :
    ∃ cs : List Cal, Cals w v cs := by
  obtain ⟨fuel, hf⟩ := h
  obtain ⟨av, lv, cv, rfl⟩ := okWide_slice Try.underlying22 hv
  rcases open_slice Try.underlying22 hf with ⟨q, _⟩ | ⟨a, len, cap, m, n, D, Pl, q, _, hle, _, hm, hx, hel⟩
  · refine ⟨[], none, 0, ?_, by simp, fun i hi => by simp at hi⟩
    simpa [Value.cells] using q
  · have q' : Value.slice av lv cv = .slice (some a) len cap := by simpa [Value.cells] using q
    rw [q']
    simp only [if_true] at hm
    subst hm
    simp only [Prod.mk.injEq] at hx
    obtain ⟨rfl, _⟩ := hx
    have hs' : ∀ x ∈ (DataW.slice ((List.range len).map D) ((List.range (m - len)).map fun j => D (len + j))).weights Try.prog 22, x ≤ reachBytes := fun x hx => by
      have := List.all_eq_true.1 hs x hx
      simpa using this
    have hlen : len ≤ 140737488355328 := by
      have := hs' _ (by simp only [DataW.weights, Try.underlying22]; exact List.mem_cons_self ..)
      rw [bytes35] at this
      simp at this
      unfold reachBytes at this
      omega
    have hc : ∀ i, ∃ c : Cal, c.Ok w ∧ (i < len → ∀ j u, c.cells[j]? = some u → w.cell? ((a.add (i * 4)).add j) = some u) := fun i => by
      by_cases hi : i < len
      · obtain ⟨cs', h1, h2⟩ := hel i (by omega)
        rw [cells35] at h1
        obtain ⟨c, rfl, hok⟩ := open_cal h2
        obtain ⟨_, hl5, hcell⟩ := World.cells?_some h1
        refine ⟨c, hok, fun _ j u hj => ?_⟩
        have hj5 : j < 4 := by
          have := (List.getElem?_eq_some_iff.1 hj).1
          simpa [Cal.cells] using this
        rw [hcell j hj5]; exact hj
      · exact ⟨⟨0, 0, 0, .slice none 0 0, []⟩, ⟨Or.inl ⟨rfl, rfl⟩, fun o ho => (by cases ho), rfl⟩, fun q => absurd q hi⟩
    obtain ⟨f, hf'⟩ := Classical.axiomOfChoice hc
    refine ⟨(List.range len).map f, some a, m, by simp, by simpa using hlen, fun i hi => ?_⟩
    have hi' : i < len := by simpa using hi
    refine ⟨a, f i, rfl, by simp [hi'], (hf' i).1, (hf' i).2 hi'⟩
end
end Go.Proofs.Ytddhjkgefninbaa
