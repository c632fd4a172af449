/-
  Undo pages as values that came in, with the lengths of their deltas.
-/
import Derived.Test.YtomlbkdagaldoaaSame
namespace Go.Proofs.Ytomlbkdagaldoaa
open Go.ChangeShapes Go.WideShapes Go.ChangeAt Go.RowKit
open Go.Deep
set_option linter.unusedVariables false
set_option linter.unusedSimpArgs false
section
variable {H : Type} {enc : TypeId × Value → H}
theorem mem_all (t : TypeId) (y : Nat) : ∀ (ds : List (DataW H)) (d : DataW H), d ∈ ds → y ∈ d.weights Try.prog t → y ∈ DataW.weightsAll Try.prog t ds
  | [], d, h, _ => by cases h
  | e :: r, d, h, hy => by
    simp only [DataW.weightsAll, List.mem_append]
    rcases List.mem_cons.1 h with q | q
    · left; rw [← q]; exact hy
    · right; exact mem_all t y r d q hy
theorem open_old2 {w : World} {fuel : Nat} {cs : List Value} {x : DataW H × List MemPlace} (h : DataW.trod enc Try.prog w 0 (fun _ => true) true fuel 81 cs = some x) :
    ∃ o : O, cs = o.cells ∧ o.Fits ∧ ((x.1.weights Try.prog 81).all (· ≤ reachBytes) = true → o.delta.size ≤ 140737488355328) := by
  cases fuel with
  | zero => simp [DataW.trod] at h
  | succ n =>
    unfold DataW.trod at h
    rw [Try.underlying81] at h
    simp only [cells81] at h
    by_cases hl : cs.length = 6
    · match cs, hl with
      | [c0, c1, c2, c3, c4, c5], _ =>
        simp [List.mapM_cons, cells4, cells22, cells24, cells26, cells9] at h
        cases t0 : DataW.trod enc Try.prog w 0 (fun _ => true) true n 4 [c0] with
        | none => simp [t0] at h
        | some x0 =>
        cases t1 : DataW.trod enc Try.prog w 0 (fun _ => true) true n 22 [c1] with
        | none => simp [t0, t1] at h
        | some x1 =>
        cases t2 : DataW.trod enc Try.prog w 0 (fun _ => true) true n 24 [c2] with
        | none => simp [t0, t1, t2] at h
        | some x2 =>
        cases t3 : DataW.trod enc Try.prog w 0 (fun _ => true) true n 26 [c3, c4] with
        | none => simp [t0, t1, t2, t3] at h
        | some x3 =>
        cases t4 : DataW.trod enc Try.prog w 0 (fun _ => true) true n 9 [c5] with
        | none => simp [t0, t1, t2, t3, t4] at h
        | some x4 =>
        obtain ⟨k0, e0, _⟩ := DataW.trod_bool Try.underlying4 t0
        obtain ⟨k1, e1, _, u1⟩ := DataW.trod_int Try.underlying22 t1
        obtain ⟨k2, e2, _, u2⟩ := DataW.trod_int Try.underlying24 t2
        obtain ⟨k3, k4, e3, e4, u3, u4⟩ := open_ref t3
        obtain ⟨k5, e5, hx4⟩ := DataW.trod_string Try.underlying9 t4
        simp at e0 e1 e2 e5
        exact ⟨⟨k0, k1, k2, k3, k4, k5⟩, by simp [O.cells, e0, e1, e2, e3, e4, e5], ⟨bounds_u16 u1, bounds_u32 u2, u3, u4⟩, fun hs => by
          simp [t0, t1, t2, t3, t4] at h
          rw [← h] at hs
          simp [DataW.weights, Try.underlying81, DataW.weightsEach, hx4] at hs
          have := hs.2.2.2.2
          unfold reachBytes at this
          simp only
          omega⟩
    · simp [hl] at h
theorem open_olds2 {w : World} {fuel : Nat} {c : Value} {x : DataW H × List MemPlace} (hf : DataW.trod enc Try.prog w 0 (fun _ => true) true fuel 42 [c] = some x) :
    ∃ os : List O, Olds w c os ∧ (∀ o ∈ os, o.Fits) ∧ ((x.1.weights Try.prog 42).all (· ≤ reachBytes) = true → os.length * 32 ≤ 140737488355328 ∧ ∀ o ∈ os, o.delta.size ≤ 140737488355328) := by
  rcases open_slice Try.underlying42 hf with ⟨q, _⟩ | ⟨a, len, cap, m, n, D, Pl, q, _, hle, _, hm, hx, hel⟩
  · exact ⟨[], Or.inl ⟨by simpa using q, rfl⟩, by simp, by simp⟩
  · have q' : c = .slice (some a) len cap := by simpa using q
    subst q'
    simp only [if_true] at hm
    have hc : ∀ i, ∃ o : O, o.Fits ∧ (i < len → ((D i).weights Try.prog 81).all (· ≤ reachBytes) = true → o.delta.size ≤ 140737488355328) ∧ (i < len → ∀ j u, o.cells[j]? = some u → w.cell? ((a.add (i * 6)).add j) = some u) := fun i => by
      by_cases hi : i < len
      · obtain ⟨cs', h1, h2⟩ := hel i (by omega)
        rw [cells81] at h1
        obtain ⟨o, rfl, hft, hwd⟩ := open_old2 h2
        obtain ⟨_, hl6, hcell⟩ := World.cells?_some h1
        refine ⟨o, hft, fun _ => hwd, fun _ j u hj => ?_⟩
        have hj6 : j < 6 := by
          have := (List.getElem?_eq_some_iff.1 hj).1
          simpa [O.cells] using this
        rw [hcell j hj6]; exact hj
      · exact ⟨O.zero, O.zero_fits, fun q => absurd q hi, fun q => absurd q hi⟩
    obtain ⟨f, hf'⟩ := Classical.axiomOfChoice hc
    refine ⟨(List.range len).map f, Or.inr ⟨a, cap, by simp, fun j u hj => ?_⟩, fun o ho => ?_, fun hs => ?_⟩
    rotate_left
    · obtain ⟨i, _, rfl⟩ := List.mem_map.1 ho
      exact (hf' i).1
    · rw [hx] at hs
      simp [DataW.weights, Try.underlying42, bytes81] at hs
      have := hs.1
      refine ⟨by unfold reachBytes at this; simp; omega, fun o ho => ?_⟩
      obtain ⟨i, hi, rfl⟩ := List.mem_map.1 ho
      have hi := List.mem_range.1 hi
      refine (hf' i).2.1 hi (List.all_eq_true.2 fun y hy => decide_eq_true ?_)
      exact hs.2.1 y (mem_all 81 y _ (D i) (List.mem_map.2 ⟨i, List.mem_range.2 hi, rfl⟩) hy)
    rw [flat_get] at hj
    cases hq : ((List.range len).map f)[j / 6]? with
    | none => rw [hq] at hj; simp at hj
    | some o =>
      rw [hq] at hj
      have hlt : j / 6 < len := by have := (List.getElem?_eq_some_iff.1 hq).1; simpa using this
      have ho : f (j / 6) = o := by
        rw [List.getElem?_map, List.getElem?_range hlt] at hq
        simpa using hq
      have := (hf' (j / 6)).2.2 hlt (j % 6) u (by rw [ho]; exact hj)
      rw [add_add, show j / 6 * 6 + j % 6 = j by omega] at this
      exact this
theorem open_undod {w : World} {base : Nat} {v : Value} {d : DataW H} {p : List MemPlace} (hv : Value.okWide Try.prog w .any base 44 v) (h : DataW.Trod enc Try.prog w 0 (fun _ => true) true 44 v d p) (hs : (d.weights Try.prog 44).all (· ≤ reachBytes) = true) :
    ∃ (lsn : Int) (c : Value) (os : List O), v = .agg #[.int .u64 lsn, c] ∧ Und w lsn c os ∧ ∀ o ∈ os, o.delta.size ≤ 140737488355328 := by
  obtain ⟨cs, rfl, hsz⟩ := okWide_struct Try.underlying44 hv
  obtain ⟨fuel, hf⟩ := h
  have hc : ∃ (lsn : Int) (c : Value) (os : List O), cs.toList = [.int .u64 lsn, c] ∧ Und w lsn c os ∧ ∀ o ∈ os, o.delta.size ≤ 140737488355328 := by
    have hf' : DataW.trod enc Try.prog w 0 (fun _ => true) true fuel 44 cs.toList = some (d, p) := hf
    generalize cs.toList = l at hf'
    cases fuel with
    | zero => simp [DataW.trod] at hf'
    | succ n =>
      unfold DataW.trod at hf'
      rw [Try.underlying44] at hf'
      simp only [cells44] at hf'
      by_cases hl : l.length = 2
      · match l, hl with
        | [c0, c1], _ =>
          simp [List.mapM_cons, cells23, cells42] at hf'
          cases t0 : DataW.trod enc Try.prog w 0 (fun _ => true) true n 23 [c0] with
          | none => simp [t0] at hf'
          | some x0 =>
          cases t1 : DataW.trod enc Try.prog w 0 (fun _ => true) true n 42 [c1] with
          | none => simp [t0, t1] at hf'
          | some x1 =>
          obtain ⟨k0, e0, _, u0⟩ := DataW.trod_int Try.underlying23 t0
          simp at e0
          obtain ⟨os, ho, hft, hsz⟩ := open_olds2 t1
          simp [t0, t1] at hf'
          obtain ⟨q1, q2⟩ := hf'
          subst q1
          simp [DataW.weights, Try.underlying44, DataW.weightsEach] at hs
          have hz := hsz (List.all_eq_true.2 fun m hm => decide_eq_true (hs.2 m hm))
          exact ⟨k0, c1, os, by rw [e0], ⟨ho, hft, bounds_u64 u0, hz.1⟩, hz.2⟩
      · simp [hl] at hf'
  obtain ⟨lsn, c, os, h1, h2⟩ := hc
  refine ⟨lsn, c, os, ?_, h2⟩
  show Value.agg cs = Value.agg [Value.int .u64 lsn, c].toArray
  rw [← h1]
end
end Go.Proofs.Ytomlbkdagaldoaa
