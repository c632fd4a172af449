/-
  Plain facts on the statement's arguments: a list of starts as a value that came in.
-/
import Derived.Test.YtbpaffjoedihbabRKeep
import Derived.SizedLaws
import Derived.Deep.Grids
import Derived.Deep.Slices
import Derived.Lib.SmallJoins
import Derived.Carry
namespace Go.Proofs.Ytbpaffjoedihbab
open Go.ChangeShapes Go.WideShapes Go.ChangeAt Go.RowKit
open Go.Deep
set_option linter.unusedVariables false
set_option linter.unusedSimpArgs false

theorem laidOut : laidOutB Try.prog = true := by kernel_rfl
theorem cells30 : Try.prog.cellsOf 30 = 2 := by kernel_rfl
theorem cells22 : Try.prog.cellsOf 22 = 1 := by kernel_rfl
theorem cells24 : Try.prog.cellsOf 24 = 1 := by kernel_rfl
section
variable {H : Type} {enc : TypeId × Value → H}
theorem open_start {w : World} {fuel : Nat} {cs : List Value} {x : DataW H × List MemPlace} (h : DataW.trod enc Try.prog w 0 (fun _ => true) true fuel 30 cs = some x) :
    ∃ o : O, cs = o.cells := by
  cases fuel with
  | zero => simp [DataW.trod] at h
  | succ n =>
    unfold DataW.trod at h
    rw [Try.underlying30] at h
    simp only [cells30] at h
    by_cases hl : cs.length = 2
    · match cs, hl with
      | [c0, c1], _ =>
        simp [List.mapM_cons, cells22, cells24] at h
        cases t0 : DataW.trod enc Try.prog w 0 (fun _ => true) true n 22 [c0] with
        | none => simp [t0] at h
        | some x0 =>
        cases t1 : DataW.trod enc Try.prog w 0 (fun _ => true) true n 24 [c1] with
        | none => simp [t0, t1] at h
        | some x1 =>
        obtain ⟨k0, e0, _⟩ := DataW.trod_int Try.underlying22 t0
        obtain ⟨k1, e1, _⟩ := DataW.trod_int Try.underlying24 t1
        simp at e0 e1
        exact ⟨⟨k0, k1⟩, by simp [O.cells, e0, e1]⟩
    · simp [hl] at h
theorem open_starts1 {w : World} {fuel : Nat} {c : Value} {x : DataW H × List MemPlace} (hf : DataW.trod enc Try.prog w 0 (fun _ => true) true fuel 23 [c] = some x) :
    ∃ os : List O, Olds w c os := by
  rcases open_slice Try.underlying23 hf with ⟨q, _⟩ | ⟨a, len, cap, m, n, D, Pl, q, _, hle, _, hm, hx, hel⟩
  · exact ⟨[], Or.inl ⟨by simpa using q, rfl⟩⟩
  · have q' : c = .slice (some a) len cap := by simpa using q
    subst q'
    simp only [if_true] at hm
    have hc : ∀ i, ∃ o : O, i < len → ∀ j u, o.cells[j]? = some u → w.cell? ((a.add (i * 2)).add j) = some u := fun i => by
      by_cases hi : i < len
      · obtain ⟨cs', h1, h2⟩ := hel i (by omega)
        rw [cells30] at h1
        obtain ⟨o, rfl⟩ := open_start h2
        obtain ⟨_, hl6, hcell⟩ := World.cells?_some h1
        refine ⟨o, fun _ j u hj => ?_⟩
        have hj6 : j < 2 := by
          have := (List.getElem?_eq_some_iff.1 hj).1
          simpa [O.cells] using this
        rw [hcell j hj6]; exact hj
      · exact ⟨O.zero, fun q => absurd q hi⟩
    obtain ⟨f, hf'⟩ := Classical.axiomOfChoice hc
    refine ⟨(List.range len).map f, Or.inr ⟨a, cap, by simp, fun j u hj => ?_⟩⟩
    rw [flat_get] at hj
    cases hq : ((List.range len).map f)[j / 2]? with
    | none => rw [hq] at hj; simp at hj
    | some o =>
      rw [hq] at hj
      have hlt : j / 2 < len := by have := (List.getElem?_eq_some_iff.1 hq).1; simpa using this
      have ho : f (j / 2) = o := by
        rw [List.getElem?_map, List.getElem?_range hlt] at hq
        simpa using hq
      have := hf' (j / 2) hlt (j % 2) u (by rw [ho]; exact hj)
      rw [add_add, show j / 2 * 2 + j % 2 = j by omega] at this
      exact this
theorem open_starts {w : World} {base : Nat} {v : Value} {d : DataW H} {p : List MemPlace} (hv : Value.okWide Try.prog w .any base 23 v) (h : DataW.Trod enc Try.prog w 0 (fun _ => true) true 23 v d p) (hs : (d.weights Try.prog 23).all (· ≤ reachBytes) = true) :
    ∃ os : List O, Olds w v os := by
  obtain ⟨fuel, hf⟩ := h
  obtain ⟨av, lv, cv, rfl⟩ := okWide_slice Try.underlying23 hv
  exact open_starts1 hf
end
end Go.Proofs.Ytbpaffjoedihbab
