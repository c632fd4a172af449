/-
  Plain facts on a list of calls that came in: each call's cells, and that they stay; a struct that is loaded from any place.
-/
import Derived.Test.YtkgmhliocfbdfaaAct
namespace Go.Proofs.Ytkgmhliocfbdfaa
open Go.ChangeShapes Go.WideShapes Go.ChangeAt Go.RowKit
open Go.Deep
set_option linter.unusedVariables false
set_option linter.unusedSimpArgs false

/-- A list of calls, as it came in. -/
def Script (w : World) (v : Value) (cs : List Call) : Prop :=
  (v = .slice none 0 0 ∧ cs = []) ∨ ∃ a cap, v = .slice (some a) cs.length cap ∧ cs.length ≤ 140737488355328 ∧ ∀ i, i < cs.length → ∃ c, cs[i]? = some c ∧ c.Ok w ∧ ∀ j u, c.cells[j]? = some u → w.cell? ((a.add (i * 5)).add j) = some u
theorem cell_keep {w w' : World} {p : Addr} {u : Value} (h : w.cell? p = some u) (hb : Below w.heap.size w w') : w'.cell? p = some u := by
  rw [← h]
  refine World.cell?_of_block (hb.block _ ?_)
  unfold World.cell? at h
  by_cases q : p.block < w.heap.size
  · exact q
  · rw [Array.getElem?_eq_none (by omega)] at h; cases h
theorem Script.keep {w w' : World} {v : Value} {cs : List Call} (h : Script w v cs) (hb : Below w.heap.size w w') : Script w' v cs := by
  rcases h with h | ⟨a, cap, h1, h2, h3⟩
  · exact Or.inl h
  · refine Or.inr ⟨a, cap, h1, h2, fun i hi => ?_⟩
    obtain ⟨c, e, ok, hc⟩ := h3 i hi
    exact ⟨c, e, ok.keep hb, fun j u hj => cell_keep (hc j u hj) hb⟩
theorem bytes33 : Try.prog.bytesOf 33 = 72 := by kernel_rfl
section
variable {H : Type} {enc : TypeId × Value → H}
theorem weights_all {P : Program} {e : TypeId} : ∀ {ds : List (DataW H)} {d : DataW H}, d ∈ ds → ∀ m ∈ d.weights P e, m ∈ DataW.weightsAll P e ds
  | [], d, h, _, _ => nomatch h
  | x :: r, d, h, m, hm => by
    unfold DataW.weightsAll
    rcases List.mem_cons.1 h with rfl | h
    · exact List.mem_append_left _ hm
    · exact List.mem_append_right _ (weights_all h m hm)
theorem open_calls {w : World} {base : Nat} {v : Value} {d : DataW H} {p : List MemPlace} (hv : Value.okWide Try.prog w .any base 22 v) (h : DataW.Trod enc Try.prog w 0 (fun _ => true) true 22 v d p) (hs : (d.weights Try.prog 22).all (· ≤ reachBytes) = true) :
    ∃ cs : List Call, Script w v cs := by
  obtain ⟨fuel, hf⟩ := h
  obtain ⟨av, lv, cv, rfl⟩ := okWide_slice Try.underlying22 hv
  rcases open_slice Try.underlying22 hf with ⟨q, _⟩ | ⟨a, len, cap, m, n, D, Pl, q, _, hle, _, hm, hx, hel⟩
  · refine ⟨[], Or.inl ⟨?_, rfl⟩⟩
    simpa [Value.cells] using q
  · have q' : Value.slice av lv cv = .slice (some a) len cap := by simpa [Value.cells] using q
    rw [q']
    simp only [if_true] at hm
    subst hm
    simp only [Prod.mk.injEq] at hx
    obtain ⟨rfl, _⟩ := hx
    have hs' : ∀ x ∈ (DataW.slice ((List.range len).map D) ((List.range (m - len)).map fun j => D (len + j))).weights Try.prog 22, x ≤ reachBytes := fun x hx => by
      have := List.all_eq_true.1 hs x hx
      simpa using this
    have hlen : len ≤ 140737488355328 := by
      have := hs' _ (by simp only [DataW.weights, Try.underlying22]; exact List.mem_cons_self ..)
      rw [bytes33] at this
      simp at this
      unfold reachBytes at this
      omega
    have hw : ∀ i, i < len → ((D i).weights Try.prog 33).all (· ≤ reachBytes) = true := fun i hi => by
      refine List.all_eq_true.2 fun x hx => ?_
      have := hs' x (by
        simp only [DataW.weights, Try.underlying22]
        refine List.mem_cons_of_mem _ (List.mem_append_left _ ?_)
        exact weights_all (List.mem_map.2 ⟨i, List.mem_range.2 hi, rfl⟩) x hx)
      simpa using this
    have hc : ∀ i, ∃ c : Call, i < len → c.Ok w ∧ ∀ j u, c.cells[j]? = some u → w.cell? ((a.add (i * 5)).add j) = some u := fun i => by
      by_cases hi : i < len
      · obtain ⟨cs', h1, h2⟩ := hel i (by omega)
        rw [cells33] at h1
        obtain ⟨c, rfl, ok⟩ := open_call h2 (hw i hi)
        obtain ⟨_, hl5, hcell⟩ := World.cells?_some h1
        refine ⟨c, fun _ => ⟨ok, fun j u hj => ?_⟩⟩
        have hj5 : j < 5 := by
          have := (List.getElem?_eq_some_iff.1 hj).1
          omega
        rw [hcell j hj5]; exact hj
      · exact ⟨⟨0, 0, 0, .nilIface, .nilIface, [], []⟩, fun q => absurd q hi⟩
    obtain ⟨f, hf'⟩ := Classical.axiomOfChoice hc
    refine ⟨(List.range len).map f, Or.inr ⟨a, m, by simp, by simpa using hlen, fun i hi => ?_⟩⟩
    have hi' : i < len := by simpa using hi
    refine ⟨f i, by simp [hi'], (hf' i hi').1, (hf' i hi').2⟩
end
theorem wpList_load_any {P : Program} {ops : Array Oper} {rest : List Oper} {op : Oper} {a : Act} {w : World} {Q : Exit → Act → World → Prop} (hgd : op.guard = none) (ty : TypeId) (x : Operand) (ho : op.op = .load ty x)
    (p : Addr) (hx : a.eval x = .pointer (some p)) (cs : List Value) (d : TypeDesc) (hc : ∀ j v, cs[j]? = some v → w.cell? (p.add j) = some v)
    (hu : P.underlying ty = some d) (hd : d.isRow = true) (hi : (P.info? ty).map (·.size) = some cs.length)
    (h : wpList P ops Q rest (a.put op.dst (.agg cs.toArray)) w) : wpList P ops Q (op :: rest) a w := by
  refine wpList_plain hgd fun K hK => ?_
  have hl : (loadCells p cs.length).run P w = .ok cs.toArray w := run_loadCells_list (P := P) w p cs hc
  have hrun : (loadVar ty p).run P w = .ok (.agg cs.toArray) w := by
    cases hq : P.info? ty with
    | none => simp [hq] at hi
    | some i =>
      have hs : i.size = cs.length := by simpa [hq] using hi
      have hagg : (isAgg ty).run P w = .ok true w := by
        unfold isAgg
        rw [Sem.run_bind, run_underlying hu w]
        cases d <;> simp_all
      simp [loadVar, Sem.run_bind, hagg, sizeOf, typeInfo, hq, hs, hl]
  unfold Oper.wp execOp
  simp only [ho, hx, Instr.loadAt, Instr.sureAddr, Sem.run_bind, Sem.run_pure, Result.andThen_ok, hrun]
  exact hK _ _ h
theorem range_op {w : World} {g : Nat} {v0 v1 v2 v3 v4 : Value} {t : TypeId} (h : Row w g #[v0, v1, v2, v3, v4] t) : w.rangeAt g 0 [v0, v1, v2, v3, v4] := by
  intro j v hv
  rw [cell_of_row w g _ _ _ _ h, Nat.zero_add]
  simpa using hv
theorem size33 : (Try.prog.info? 33).map (·.size) = some 5 := by kernel_rfl
theorem act_length {w : World} {g : Nat} {d : Dsk} {L : Loc} {N : Nat} (h : DAt w g d L N) (c : Call) : (act d c).1.length = 256 := by
  unfold act
  by_cases k0 : c.kd = 0
  · rw [if_pos k0]; exact read_length h c.b
  · rw [if_neg k0]
    repeat' split
    all_goals exact zs_length 256
theorem Cel.one {w : World} {v : Value} {cs : List Value} (h : Cel w v cs) : v.oneCell' = true := by
  rcases h with ⟨rfl, _⟩ | ⟨a, cap, rfl, _⟩ <;> rfl
theorem zero33 (w : World) : (zeroValue 33).run Try.prog w = .ok (.agg #[.int .i64 0, .int .i64 0, .int .u8 0, .slice none 0 0, .slice none 0 0]) w := (zero_of_info (P := Try.prog) (t := 33) (v := .agg #[.int .i64 0, .int .i64 0, .int .u8 0, .slice none 0 0, .slice none 0 0]) (n := 5) (by kernel_rfl)).1 w
end Go.Proofs.Ytkgmhliocfbdfaa
