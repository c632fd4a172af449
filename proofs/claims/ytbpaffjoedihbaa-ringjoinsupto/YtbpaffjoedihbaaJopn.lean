/-
  Plain facts on the statement's arguments: a list of chunks as a value that came in, and that its letters are at most the reading's bulk.
-/
import Derived.Test.YtbpaffjoedihbaaJt
namespace Go.Proofs.Ytbpaffjoedihbaa
open Go.ChangeShapes Go.WideShapes Go.ChangeAt Go.RowKit
open Go.Deep
set_option linter.unusedVariables false
set_option linter.unusedSimpArgs false

section
variable {H : Type} {enc : TypeId × Value → H}
theorem open_ch {w : World} {fuel : Nat} {cs : List Value} {x : DataW H × List MemPlace} (h : DataW.trod enc Try.prog w 0 (fun _ => true) true fuel 25 cs = some x) :
    ∃ c : Ck.O, cs = c.cells ∧ c.Fits ∧ c.txt.size ≤ Rows.uptoBulk x.1 := by
  cases fuel with
  | zero => simp [DataW.trod] at h
  | succ n =>
    unfold DataW.trod at h
    rw [Try.underlying25] at h
    simp only [cells25] at h
    by_cases hl : cs.length = 4
    · match cs, hl with
      | [c0, c1, c2, c3], _ =>
        simp [List.mapM_cons, cells22, cells23, cells9] at h
        cases t0 : DataW.trod enc Try.prog w 0 (fun _ => true) true n 22 [c0] with
        | none => simp [t0] at h
        | some x0 =>
        cases t1 : DataW.trod enc Try.prog w 0 (fun _ => true) true n 22 [c1] with
        | none => simp [t0, t1] at h
        | some x1 =>
        cases t2 : DataW.trod enc Try.prog w 0 (fun _ => true) true n 23 [c2] with
        | none => simp [t0, t1, t2] at h
        | some x2 =>
        cases t3 : DataW.trod enc Try.prog w 0 (fun _ => true) true n 9 [c3] with
        | none => simp [t0, t1, t2, t3] at h
        | some x3 =>
        obtain ⟨k0, e0, _, u0⟩ := DataW.trod_int Try.underlying22 t0
        obtain ⟨k1, e1, _, u1⟩ := DataW.trod_int Try.underlying22 t1
        obtain ⟨k2, e2, _, u2⟩ := DataW.trod_int Try.underlying23 t2
        obtain ⟨k3, e3, r3, u3⟩ := DataW.trod_string Try.underlying9 t3
        simp at e0 e1 e2 e3
        refine ⟨⟨k0, k1, k2, k3⟩, by simp [Ck.O.cells, e0, e1, e2, e3], ⟨bounds_u32 u0, bounds_u32 u1, bounds_u64 u2⟩, ?_⟩
        simp [t0, t1, t2, t3, r3] at h
        rw [← h]
        simp only [Rows.uptoBulk, Rows.uptoBulkAll]
        have : k3.data.toList.length = k3.size := rfl
        omega
    · simp [hl] at h
theorem tot_bulk (f : Nat → Ck.O) (D : Nat → DataW H) : ∀ (l : List Nat), (∀ i ∈ l, (f i).txt.size ≤ Rows.uptoBulk (D i)) → tot (l.map f) ≤ Rows.uptoBulkAll (l.map D)
  | [], _ => by simp [tot]
  | a :: r, h => by
    have h1 := h a (by simp)
    have h2 := tot_bulk f D r (fun i hi => h i (by simp [hi]))
    simp only [List.map_cons, tot, Rows.uptoBulkAll]
    omega
theorem open_chunks {w : World} {base : Nat} {v : Value} {d : DataW H} {p : List MemPlace} (hv : Value.okWide Try.prog w .any base 44 v) (h : DataW.Trod enc Try.prog w 0 (fun _ => true) true 44 v d p) :
    ∃ os : List Ck.O, Ck.Olds w v os ∧ (∀ c ∈ os, c.Fits) ∧ tot os ≤ Rows.uptoBulk d := by
  obtain ⟨fuel, hf⟩ := h
  obtain ⟨av, lv, cv, rfl⟩ := okWide_slice Try.underlying44 hv
  rcases open_slice Try.underlying44 hf with ⟨q, _⟩ | ⟨a, len, cap, m, n, D, Pl, q, _, hle, _, hm, hx, hel⟩
  · have q' : Value.slice av lv cv = .slice none 0 0 := by simpa [Value.cells] using q
    exact ⟨[], Or.inl ⟨q', rfl⟩, by simp, by simp [tot]⟩
  · have q' : Value.slice av lv cv = .slice (some a) len cap := by simpa [Value.cells] using q
    rw [q']
    simp only [if_true] at hm
    have hd : d = .slice ((List.range len).map D) ((List.range (m - len)).map fun j => D (len + j)) := congrArg Prod.fst hx
    have hc : ∀ i, ∃ o : Ck.O, o.Fits ∧ (i < len → (∀ j u, o.cells[j]? = some u → w.cell? ((a.add (i * 4)).add j) = some u) ∧ o.txt.size ≤ Rows.uptoBulk (D i)) := fun i => by
      by_cases hi : i < len
      · obtain ⟨cs', h1, h2⟩ := hel i (by omega)
        rw [cells25] at h1
        obtain ⟨o, rfl, hft, hbk⟩ := open_ch h2
        obtain ⟨_, hl6, hcell⟩ := World.cells?_some h1
        refine ⟨o, hft, fun _ => ⟨fun j u hj => ?_, hbk⟩⟩
        have hj6 : j < 4 := by
          have := (List.getElem?_eq_some_iff.1 hj).1
          simpa [Ck.O.cells] using this
        rw [hcell j hj6]; exact hj
      · exact ⟨Ck.O.zero, by simp [Ck.O.Fits, Ck.O.zero], fun q => absurd q hi⟩
    obtain ⟨f, hf'⟩ := Classical.axiomOfChoice hc
    refine ⟨(List.range len).map f, Or.inr ⟨a, cap, by simp, fun j u hj => ?_⟩, fun o ho => ?_, ?_⟩
    rotate_left
    · obtain ⟨i, _, rfl⟩ := List.mem_map.1 ho
      exact (hf' i).1
    · rw [hd]
      have := tot_bulk f D (List.range len) (fun i hi => ((hf' i).2 (List.mem_range.1 hi)).2)
      simp only [Rows.uptoBulk]
      omega
    rw [Ck.flat_get] at hj
    cases hq : ((List.range len).map f)[j / 4]? with
    | none => rw [hq] at hj; simp at hj
    | some o =>
      rw [hq] at hj
      have hlt : j / 4 < len := by have := (List.getElem?_eq_some_iff.1 hq).1; simpa using this
      have ho : f (j / 4) = o := by
        rw [List.getElem?_map, List.getElem?_range hlt] at hq
        simpa using hq
      have := ((hf' (j / 4)).2 hlt).1 (j % 4) u (by rw [ho]; exact hj)
      rw [Ck.add_add, show j / 4 * 4 + j % 4 = j by omega] at this
      exact this
end
end Go.Proofs.Ytbpaffjoedihbaa
