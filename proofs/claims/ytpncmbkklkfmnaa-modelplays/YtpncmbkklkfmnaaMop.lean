/-
  Proved here: a Call, and a list of Calls, as values that came in.
-/
import Derived.Test.YtpncmbkklkfmnaaMaw
import Derived.SizedLaws
import Derived.Deep.Grids
import Derived.Deep.Slices
import Derived.Lib.SmallJoins
import Derived.Carry
import Derived.ChangeSlices
namespace Go.Proofs.Ytpncmbkklkfmnaa
open Go.ChangeShapes Go.WideShapes Go.ChangeAt Go.RowKit
open Go.Deep Go.Maps
set_option linter.unusedVariables false
set_option linter.unusedSimpArgs false
set_option maxRecDepth 20000


def Cal.cells (c : Cal) : List Value := [.int .u8 c.kind, .int .u64 c.txn, .int .u16 c.page, .int .i64 c.off, .string c.str]
theorem laidOut : laidOutB Try.prog = true := by kernel_rfl
theorem cells35 : Try.prog.cellsOf 35 = 5 := by kernel_rfl
theorem cells32 : Try.prog.cellsOf 32 = 1 := by kernel_rfl
theorem cells33 : Try.prog.cellsOf 33 = 1 := by kernel_rfl
theorem cells3' : Try.prog.cellsOf 3 = 1 := by kernel_rfl
theorem cells9' : Try.prog.cellsOf 9 = 1 := by kernel_rfl
theorem bytes35 : Try.prog.bytesOf 35 = 48 := by kernel_rfl
theorem bound_u8 {i : Int} (h : (Lit.int .u8 i).wf = true) : 0 ≤ i ∧ i ≤ 255 := by
  have e : (Lit.int .u8 i).wf = (decide ((0 : Int) ≤ i) && decide (i ≤ 255)) := rfl
  rw [e] at h; simpa using h
theorem bound_u16 {i : Int} (h : (Lit.int .u16 i).wf = true) : 0 ≤ i ∧ i ≤ 65535 := by
  have e : (Lit.int .u16 i).wf = (decide ((0 : Int) ≤ i) && decide (i ≤ 65535)) := rfl
  rw [e] at h; simpa using h
theorem bound_u64 {i : Int} (h : (Lit.int .u64 i).wf = true) : 0 ≤ i ∧ i ≤ 18446744073709551615 := by
  have e : (Lit.int .u64 i).wf = (decide ((0 : Int) ≤ i) && decide (i ≤ 18446744073709551615)) := rfl
  rw [e] at h; simpa using h
theorem bound_u32 {i : Int} (h : (Lit.int .u32 i).wf = true) : 0 ≤ i ∧ i ≤ 4294967295 := by
  have e : (Lit.int .u32 i).wf = (decide ((0 : Int) ≤ i) && decide (i ≤ 4294967295)) := rfl
  rw [e] at h; simpa using h
theorem bound_i64 {i : Int} (h : (Lit.int .i64 i).wf = true) : -9223372036854775808 ≤ i ∧ i ≤ 9223372036854775807 := by
  have e : (Lit.int .i64 i).wf = (decide ((-9223372036854775808 : Int) ≤ i) && decide (i ≤ 9223372036854775807)) := rfl
  rw [e] at h; simpa using h
section
variable {H : Type} {enc : TypeId × Value → H}
theorem open_cal {w : World} {fuel : Nat} {l : List Value} {x : DataW H × List MemPlace} (hf' : DataW.trod enc Try.prog w 0 (fun _ => true) true fuel 35 l = some x) : ∃ c : Cal, l = c.cells ∧ c.Ok := by
  cases fuel with
  | zero => simp [DataW.trod] at hf'
  | succ n =>
    unfold DataW.trod at hf'
    rw [Try.underlying35] at hf'
    simp only [cells35] at hf'
    by_cases hl : l.length = 5
    · match l, hl with
      | [c0, c1, c2, c3, c4], hl =>
        simp [List.mapM_cons, cells5, cells32, cells33, cells3', cells9'] at hf'
        cases t0 : DataW.trod enc Try.prog w 0 (fun _ => true) true n 5 [c0] with
        | none => simp [t0] at hf'
        | some x0 =>
        cases t1 : DataW.trod enc Try.prog w 0 (fun _ => true) true n 32 [c1] with
        | none => simp [t0, t1] at hf'
        | some x1 =>
        cases t2 : DataW.trod enc Try.prog w 0 (fun _ => true) true n 33 [c2] with
        | none => simp [t0, t1, t2] at hf'
        | some x2 =>
        cases t3 : DataW.trod enc Try.prog w 0 (fun _ => true) true n 3 [c3] with
        | none => simp [t0, t1, t2, t3] at hf'
        | some x3 =>
        cases t4 : DataW.trod enc Try.prog w 0 (fun _ => true) true n 9 [c4] with
        | none => simp [t0, t1, t2, t3, t4] at hf'
        | some x4 =>
        obtain ⟨k0, e0, _, w0⟩ := DataW.trod_int Try.underlying5 t0
        obtain ⟨k1, e1, _, w1⟩ := DataW.trod_int Try.underlying32 t1
        obtain ⟨k2, e2, _, w2⟩ := DataW.trod_int Try.underlying33 t2
        obtain ⟨k3, e3, _, w3⟩ := DataW.trod_int Try.underlying3 t3
        obtain ⟨k4, e4, _⟩ := DataW.trod_string Try.underlying9 t4
        simp at e0 e1 e2 e3 e4
        refine ⟨⟨k0, k1, k2, k3, k4⟩, ?_, ⟨bound_u8 w0, bound_u64 w1, bound_u16 w2, bound_i64 w3⟩⟩
        unfold Cal.cells
        rw [e0, e1, e2, e3, e4]
    · simp [hl] at hf'
theorem open_calv {w : World} {base : Nat} {v : Value} {d : DataW H} {p : List MemPlace} (hv : Value.okWide Try.prog w .any base 35 v) (h : DataW.Trod enc Try.prog w 0 (fun _ => true) true 35 v d p) :
    ∃ c : Cal, v = .agg c.arr ∧ c.Ok := by
  obtain ⟨cs, rfl, hsz⟩ := okWide_struct Try.underlying35 hv
  obtain ⟨fuel, hf⟩ := h
  have hf' : DataW.trod enc Try.prog w 0 (fun _ => true) true fuel 35 cs.toList = some (d, p) := hf
  obtain ⟨c, h1, h2⟩ := open_cal hf'
  refine ⟨c, ?_, h2⟩
  have : cs = c.cells.toArray := by rw [← h1]
  rw [this]; rfl
/-- A list of calls that came in. -/
def Cals (w : World) (v : Value) (cs : List Cal) : Prop := ∃ (oa : Option Addr) (cap : Nat), v = .slice oa cs.length cap ∧ cs.length ≤ cap ∧ cs.length ≤ 140737488355328 ∧ ∀ i, i < cs.length → ∃ (a : Addr) (c : Cal), oa = some a ∧ cs[i]? = some c ∧ c.Ok ∧ ∀ j u, c.cells[j]? = some u → w.cell? ((a.add (i * 5)).add j) = some u
theorem open_mcals {w : World} {base : Nat} {v : Value} {d : DataW H} {p : List MemPlace} (hv : Value.okWide Try.prog w .any base 23 v) (h : DataW.Trod enc Try.prog w 0 (fun _ => true) true 23 v d p) (hs : (d.weights Try.prog 23).all (· ≤ reachBytes) = true) :
    ∃ cs : List Cal, Cals w v cs := by
  obtain ⟨fuel, hf⟩ := h
  obtain ⟨av, lv, cv, rfl⟩ := okWide_slice Try.underlying23 hv
  rcases open_slice Try.underlying23 hf with ⟨q, _⟩ | ⟨a, len, cap, m, n, D, Pl, q, _, hle, _, hm, hx, hel⟩
  · refine ⟨[], none, 0, ?_, by simp, by simp, fun i hi => by simp at hi⟩
    simpa [Value.cells] using q
  · have q' : Value.slice av lv cv = .slice (some a) len cap := by simpa [Value.cells] using q
    rw [q']
    simp only [if_true] at hm
    subst hm
    simp only [Prod.mk.injEq] at hx
    obtain ⟨rfl, _⟩ := hx
    have hs' : ∀ x ∈ (DataW.slice ((List.range len).map D) ((List.range (m - len)).map fun j => D (len + j))).weights Try.prog 23, x ≤ reachBytes := fun x hx => by
      have := List.all_eq_true.1 hs x hx
      simpa using this
    have hlen : len ≤ 140737488355328 := by
      have := hs' _ (by simp only [DataW.weights, Try.underlying23]; exact List.mem_cons_self ..)
      rw [bytes35] at this
      simp at this
      unfold reachBytes at this
      omega
    have hc : ∀ i, ∃ c : Cal, c.Ok ∧ (i < len → ∀ j u, c.cells[j]? = some u → w.cell? ((a.add (i * 5)).add j) = some u) := fun i => by
      by_cases hi : i < len
      · obtain ⟨cs', h1, h2⟩ := hel i (by omega)
        rw [cells35] at h1
        obtain ⟨c, rfl, hok⟩ := open_cal h2
        obtain ⟨_, hl5, hcell⟩ := World.cells?_some h1
        refine ⟨c, hok, fun _ j u hj => ?_⟩
        have hj5 : j < 5 := by
          have := (List.getElem?_eq_some_iff.1 hj).1
          exact this
        rw [hcell j hj5]; exact hj
      · exact ⟨aw0, aw_ok.1, fun q => absurd q hi⟩
    obtain ⟨f, hf'⟩ := Classical.axiomOfChoice hc
    refine ⟨(List.range len).map f, some a, m, by simp, by simpa using hle, by simpa using hlen, fun i hi => ?_⟩
    have hi' : i < len := by simpa using hi
    refine ⟨a, f i, rfl, by simp [hi'], (hf' i).1, (hf' i).2 hi'⟩
end
/-- The calls stay where nothing old turns. -/
theorem Cals.below {w w' : World} {v : Value} {cs : List Cal} (h : Cals w v cs) (hb : Below w.heap.size w w') : Cals w' v cs := by
  obtain ⟨oa, cap, e, h1, h2, h3⟩ := h
  refine ⟨oa, cap, e, h1, h2, fun i hi => ?_⟩
  obtain ⟨a, c, e1, e2, e3, e4⟩ := h3 i hi
  exact ⟨a, c, e1, e2, e3, fun j u hj => cell_keep (e4 j u hj) hb⟩
/-- What a list of calls leaves of a machine, and what it answers. -/
def runS (s : St) (cs : List Cal) : St := cs.foldl doS s
theorem runS_snoc (s : St) (cs : List Cal) (c : Cal) : runS s (cs ++ [c]) = doS (runS s cs) c := by simp [runS]
theorem doS_begun (s : St) (c : Cal) : s.begun ≤ (doS s c).begun ∧ (doS s c).begun ≤ s.begun + 1 := by
  have hb : s.begun ≤ (beginS s).begun ∧ (beginS s).begun ≤ s.begun + 1 := by
    unfold beginS
    split
    · exact ⟨by show s.begun ≤ s.begun + 1; omega, Int.le_refl _⟩
    · exact ⟨Int.le_refl _, by omega⟩
  have hu : (useS s c).begun = s.begun := by
    unfold useS
    split
    · rfl
    · cases findL s.live c.txn with
      | none => rfl
      | some t =>
        show (if c.kind = 1 then s else if full t.2.2 c.page = true then s else _).begun = _
        split
        · rfl
        · split <;> rfl
  have hc : ∀ s a ws, (commitS s a ws).begun = s.begun := fun s a ws => by
    unfold commitS
    split
    · rfl
    · split
      · rfl
      · split <;> rfl
  have he : (endS s c).begun = s.begun := by
    unfold endS
    cases findL s.live c.txn with
    | none => rfl
    | some t =>
      show (if c.kind = 4 then _ else commitS _ _ _ : St).begun = _
      split
      · rfl
      · rw [hc]
  unfold doS
  split
  · omega
  · split
    · exact hb
    · split
      · omega
      · split
        · omega
        · split
          · simp; omega
          · omega
theorem runS_begun (s : St) (cs : List Cal) : (runS s cs).begun ≤ s.begun + cs.length := by
  induction cs generalizing s with
  | nil => simp [runS]
  | cons c r ih =>
    have h1 := ih (doS s c)
    have h2 := (doS_begun s c).2
    show (runS (doS s c) r).begun ≤ _
    simp only [List.length_cons]
    omega
theorem built35_k (k : Int) : Try.prog.built 35 [(0, .int .u8 k)] = some #[.int .u8 k, .int .u64 0, .int .u16 0, .int .i64 0, .string ⟨#[]⟩] := by kernel_rfl
end Go.Proofs.Ytpncmbkklkfmnaa
