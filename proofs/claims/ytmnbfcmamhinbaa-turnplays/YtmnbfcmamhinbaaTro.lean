/-
  How the arguments of the turn's statements came in: lists of calls, lists of numbers.
-/
import Derived.Test.YtmnbfcmamhinbaaTrm
namespace Go.Proofs.Ytmnbfcmamhinbaa.Tu
open Go.ChangeShapes Go.WideShapes Go.ChangeAt Go.RowKit
open Go.Deep
set_option linter.unusedVariables false
set_option linter.unusedSimpArgs false

theorem below_setRow {B : Nat} {a w : World} (h : Below B a w) {g : Nat} (hg : B ≤ g) (cs : Array Value) : Below B a (w.setRow g cs) :=
  ⟨h.os, h.tape, h.output, by simp [World.setRow]; exact h.size, fun k hk => (setRow_other w g k cs (by omega)).trans (h.block k hk)⟩
theorem laidOut : laidOutB Try.prog = true := by kernel_rfl
theorem size63 : (Try.prog.info? 63).map (·.size) = some 2 := by kernel_rfl
theorem zero63 (w : World) : (zeroValue 63).run Try.prog w = .ok (.agg #[.int .i64 0, .int .i64 0]) w := (zero_of_info (P := Try.prog) (t := 63) (v := .agg #[.int .i64 0, .int .i64 0]) (n := 2) (by kernel_rfl)).1 w
/-- A call, as it came in. -/
structure Call where
  k : Int
  n : Int
def Call.cells (c : Call) : List Value := [.int .i64 c.k, .int .i64 c.n]
def Call.Ok (c : Call) : Prop := (Lit.int .i64 c.n).wf = true
/-- A list of calls, as it came in. -/
def Script (w : World) (v : Value) (cs : List Call) : Prop :=
  ∃ oa cap, v = .slice oa cs.length cap ∧ cs.length ≤ 140737488355328 ∧ ∀ i, i < cs.length → ∃ a c, oa = some a ∧ cs[i]? = some c ∧ c.Ok ∧ ∀ j u, c.cells[j]? = some u → w.cell? ((a.add (i * 2)).add j) = some u
theorem cells63 : Try.prog.cellsOf 63 = 2 := by kernel_rfl
theorem cells3 : Try.prog.cellsOf 3 = 1 := by kernel_rfl
theorem bytes63 : Try.prog.bytesOf 63 = 16 := by kernel_rfl
section
variable {H : Type} {enc : TypeId × Value → H}
set_option maxRecDepth 100000 in
theorem open_call {w : World} {fuel : Nat} {cs : List Value} {x : DataW H × List MemPlace} (h : DataW.trod enc Try.prog w 0 (fun _ => true) true fuel 63 cs = some x) : ∃ c : Call, cs = c.cells ∧ c.Ok := by
  cases fuel with
  | zero => simp [DataW.trod] at h
  | succ n =>
    unfold DataW.trod at h
    rw [Try.underlying63] at h
    simp only [cells63] at h
    by_cases hl : cs.length = 2
    · match cs, hl with
      | [c0, c1], _ =>
        simp [List.mapM_cons, cells3, cells3] at h
        cases t0 : DataW.trod enc Try.prog w 0 (fun _ => true) true n 3 [c0] with
        | none => simp [t0] at h
        | some x0 =>
        cases t1 : DataW.trod enc Try.prog w 0 (fun _ => true) true n 3 [c1] with
        | none => simp [t0, t1] at h
        | some x1 =>
        obtain ⟨k0, e0, _, w0⟩ := DataW.trod_int Try.underlying3 t0
        obtain ⟨k1, e1, _, w1⟩ := DataW.trod_int Try.underlying3 t1
        simp at e0 e1
        exact ⟨⟨k0, k1⟩, by simp [Call.cells, e0, e1], w1⟩
    · simp [hl] at h
set_option maxRecDepth 100000 in
theorem open_tcalls {w : World} {base : Nat} {v : Value} {d : DataW H} {p : List MemPlace} (hv : Value.okWide Try.prog w .any base 57 v) (h : DataW.Trod enc Try.prog w 0 (fun _ => true) true 57 v d p) (hs : (d.weights Try.prog 57).all (· ≤ reachBytes) = true) :
    ∃ cs : List Call, Script w v cs := by
  obtain ⟨fuel, hf⟩ := h
  obtain ⟨av, lv, cv, rfl⟩ := okWide_slice Try.underlying57 hv
  rcases open_slice Try.underlying57 hf with ⟨q, _⟩ | ⟨a, len, cap, m, n, D, Pl, q, _, hle, _, hm, hx, hel⟩
  · refine ⟨[], none, 0, ?_, by simp, fun i hi => by simp at hi⟩
    simpa [Value.cells] using q
  · have q' : Value.slice av lv cv = .slice (some a) len cap := by simpa [Value.cells] using q
    rw [q']
    simp only [if_true] at hm
    subst hm
    simp only [Prod.mk.injEq] at hx
    obtain ⟨rfl, _⟩ := hx
    have hs' : ∀ x ∈ (DataW.slice ((List.range len).map D) ((List.range (m - len)).map fun j => D (len + j))).weights Try.prog 57, x ≤ reachBytes := fun x hx => by
      have := List.all_eq_true.1 hs x hx
      simpa using this
    have hlen : len ≤ 140737488355328 := by
      have := hs' _ (by simp only [DataW.weights, Try.underlying57]; exact List.mem_cons_self ..)
      rw [bytes63] at this
      simp at this
      unfold reachBytes at this
      omega
    have hc : ∀ i, ∃ c : Call, c.Ok ∧ (i < len → ∀ j u, c.cells[j]? = some u → w.cell? ((a.add (i * 2)).add j) = some u) := fun i => by
      by_cases hi : i < len
      · obtain ⟨cs', h1, h2⟩ := hel i (by omega)
        rw [cells63] at h1
        obtain ⟨c, rfl, hok⟩ := open_call h2
        obtain ⟨_, hl5, hcell⟩ := World.cells?_some h1
        refine ⟨c, hok, fun _ j u hj => ?_⟩
        have hj5 : j < 2 := by
          have := (List.getElem?_eq_some_iff.1 hj).1
          omega
        rw [hcell j hj5]; exact hj
      · exact ⟨⟨0, 0⟩, by show (Lit.int .i64 0).wf = true; rfl, fun q => absurd q hi⟩
    obtain ⟨f, hf'⟩ := Classical.axiomOfChoice hc
    refine ⟨(List.range len).map f, some a, m, by simp, by simpa using hlen, fun i hi => ?_⟩
    have hi' : i < len := by simpa using hi
    refine ⟨a, f i, rfl, by simp [hi'], (hf' i).1, (hf' i).2 hi'⟩
end
/-- A list of numbers, as it came in. -/
def Nums (w : World) (v : Value) (xs : List Int) : Prop :=
  ∃ oa cap, v = .slice oa xs.length cap ∧ ∀ i, i < xs.length → ∃ a x, oa = some a ∧ xs[i]? = some x ∧ w.cell? (a.add i) = some (.int .i64 x)
set_option maxRecDepth 100000 in
theorem open_tints {H : Type} {enc : TypeId × Value → H} {w : World} {base : Nat} {v : Value} {d : DataW H} {p : List MemPlace} (hv : Value.okWide Try.prog w .any base 65 v) (h : DataW.Trod enc Try.prog w 0 (fun _ => true) true 65 v d p) (hs : (d.weights Try.prog 65).all (· ≤ reachBytes) = true) :
    ∃ xs : List Int, Nums w v xs := by
  obtain ⟨fuel, hf⟩ := h
  obtain ⟨av, lv, cv, rfl⟩ := okWide_slice Try.underlying65 hv
  rcases open_slice Try.underlying65 hf with ⟨q, _⟩ | ⟨a, len, cap, m, n, D, Pl, q, _, hle, _, hm, hx, hel⟩
  · refine ⟨[], none, 0, ?_, fun i hi => by simp at hi⟩
    simpa [Value.cells] using q
  · have q' : Value.slice av lv cv = .slice (some a) len cap := by simpa [Value.cells] using q
    rw [q']
    have hc : ∀ i, ∃ x : Int, i < len → w.cell? (a.add i) = some (.int .i64 x) := fun i => by
      by_cases hi : i < len
      · obtain ⟨cs', h1, h2⟩ := hel i (by simp only [if_true] at hm; omega)
        rw [cells3, Nat.mul_one] at h1
        obtain ⟨_, hl5, hcell⟩ := World.cells?_some h1
        have hl1 : cs'.length = 1 := by omega
        match cs', hl1 with
        | [c0], _ =>
          obtain ⟨x, e0, _⟩ := DataW.trod_int Try.underlying3 h2
          simp at e0
          refine ⟨x, fun _ => ?_⟩
          have := hcell 0 (by omega)
          rw [Addr.add_zero'] at this
          rw [this]; simp [e0]
      · exact ⟨0, fun q => absurd q hi⟩
    obtain ⟨f, hf'⟩ := Classical.axiomOfChoice hc
    refine ⟨(List.range len).map f, some a, cap, by simp, fun i hi => ?_⟩
    have hi' : i < len := by simpa using hi
    exact ⟨a, f i, rfl, by simp [hi'], hf' i hi'⟩
end Go.Proofs.Ytmnbfcmamhinbaa.Tu
