/-
  Proved here: the first spare slot (slot.spare), and where the records end (slot.end).
-/
import Derived.Test.YtihjapfgllokgaaQScp
namespace Go.Proofs.Ytihjapfgllokgaa
open Go.ChangeShapes Go.WideShapes Go.ChangeAt Go.RowKit
set_option linter.unusedVariables false
set_option linter.unusedSimpArgs false
set_option maxRecDepth 20000

/-- The first empty one's place. -/
def spareAt (os : List O) : Nat := os.findIdx (fun o => decide (o = O.zero))
/-- Where the records end, at n or ahead of it. -/
def endAt (os : List O) : Nat → Nat
  | 0 => 0
  | n + 1 => if os[n]? = some O.zero then endAt os n else n + 1
theorem endAt_succ (os : List O) (m : Nat) : endAt os (m + 1) = if os[m]? = some O.zero then endAt os m else m + 1 := rfl
theorem ret_intS {a b : Int} (h : a = b) : Ending.returned (.int .i64 a) = Ending.returned (.int .i64 b) := by rw [h]
theorem spare_none (os : List O) (h : ∀ (i : Nat) (o : O), os[i]? = some o → o ≠ O.zero) : spareAt os = os.length := by
  unfold spareAt
  rw [List.findIdx_eq_length]
  intro o ho
  obtain ⟨i, hi⟩ := List.getElem?_of_mem ho
  exact decide_eq_false (h i o hi)
theorem spare_some (os : List O) (k : Nat) (hk : os[k]? = some O.zero) (h : ∀ (i : Nat) (o : O), i < k → os[i]? = some o → o ≠ O.zero) : spareAt os = k := by
  have hl : k < os.length := (List.getElem?_eq_some_iff.1 hk).1
  unfold spareAt
  rw [List.findIdx_eq hl]
  have e : os[k] = O.zero := by have := List.getElem?_eq_getElem hl; rw [this] at hk; simpa using hk
  refine ⟨by rw [e]; simp, fun j hj => ?_⟩
  exact decide_eq_false (h j os[j] hj (by simp))

theorem load_any_g {P : Program} {ops : Array Oper} {rest : List Oper} {op : Oper} {a : Act} {w : World} {Q : Exit → Act → World → Prop} (hgd : Region.wanted op (yielded ops a.tmps) = true) (ty : TypeId) (x : Operand) (ho : op.op = .load ty x)
    (p : Addr) (hx : a.eval x = .pointer (some p)) (cs : List Value) (d : TypeDesc) (hc : ∀ j v, cs[j]? = some v → w.cell? (p.add j) = some v)
    (hu : P.underlying ty = some d) (hd : d.isRow = true) (hi : (P.info? ty).map (·.size) = some cs.length)
    (h : wpList P ops Q rest (a.put op.dst (.agg cs.toArray)) w) : wpList P ops Q (op :: rest) a w := by
  refine BigFrame.wpList_want hgd fun K hK => ?_
  have hl : (loadCells p cs.length).run P w = .ok cs.toArray w := run_loadCells_list (P := P) w p cs hc
  have hrun : (loadVar ty p).run P w = .ok (.agg cs.toArray) w := by
    cases hq : P.info? ty with
    | none => simp [hq] at hi
    | some i =>
      have hs : i.size = cs.length := by simpa [hq] using hi
      have hagg : (isAgg ty).run P w = .ok true w := by
        unfold isAgg
        rw [Sem.run_bind, run_underlying hu w]
        cases d <;> simp_all
      simp [loadVar, Sem.run_bind, hagg, sizeOf, typeInfo, hq, hs, hl]
  unfold Oper.wp execOp
  simp only [ho, hx, Instr.loadAt, Instr.sureAddr, Sem.run_bind, Sem.run_pure, Result.andThen_ok, hrun]
  exact hK _ _ h

set_option maxHeartbeats 1000000 in
theorem spare_any (lsn : Int) (v : Value) (os : List O) (w : World) (ho : Olds w v os) (hn : os.length ≤ 1000000000) :
    Calls Try.prog 86 #[.agg #[.int .u64 lsn, v]] w fun e w' => e = .returned (.int .i64 (spareAt os)) ∧ Below w.heap.size w w' := by
  obtain ⟨oa, cap, rfl, hcs⟩ := ho.hold
  have HCS : Hid _ := hcs
  clear hcs ho
  obtain ⟨n, HN⟩ : ∃ n, Hid (os.length = n) := ⟨_, rfl⟩
  rw [HN.out] at HCS hn ⊢
  have hz := zero31
  have ab : Below w.heap.size w (w.alloc (.cells #[.int .u64 lsn, .slice oa n cap] 82)) := (Below.refl _ _).alloc (Nat.le_refl _) _
  go_enter Try.func86, Try.ntmps86
  go_wp2
  go_loopw [8] (fun d wr => ∃ (k : Nat), d = .int .i64 k ∧ k ≤ n ∧ Hid (∀ (i : Nat) (o : O), i < k → os[i]? = some o → o ≠ O.zero) ∧ Below w.heap.size w wr ∧ Row wr w.heap.size #[.int .u64 lsn, .slice oa n cap] 82) (fun d _ => n - (intOf d).toNat)
  case atStart => exact ⟨0, rfl, by omega, fun i o hi => absurd hi (by omega), ab, Row.new _ _ _⟩
  case round =>
    clear ab
    obtain ⟨k, rfl, hk, HO, rb, r0⟩ := hrel
    by_cases hkn : k < n
    · have hkn' : (k : Int) < (n : Int) := by omega
      obtain ⟨a, l, p, t, np, ns, dl, rfl, he, hcell⟩ := HCS.out k hkn
      have hcw : ∀ j u, [Value.bool l, .int .u16 p, .int .u32 t, .int .u16 np, .int .u8 ns, .string dl][j]? = some u → wr.cell? ((a.add (k * 6)).add j) = some u := fun j u hj => cell_keep (hcell j u hj) rb
      have heq : ∀ w, (Op.equalIn 10000 31 (.agg #[.bool l, .int .u16 p, .int .u32 t, .int .u16 np, .int .u8 ns, .string dl]) (.agg #[.bool false, .int .u16 0, .int .u32 0, .int .u16 0, .int .u8 0, .string ByteArray.empty])).run Try.prog w = .ok (decide ((⟨l, p, t, np, ns, dl⟩ : O) = O.zero)) w := fun w => equal31 ⟨l, p, t, np, ns, dl⟩ O.zero w
      have tl : Hid (1 = 1) := rfl
      have HE := show Hid _ from he
      clear he hcell
      by_cases hzo : (⟨l, p, t, np, ns, dl⟩ : O) = O.zero
      · have HZ := show Hid _ from hzo
        rw [decide_eq_true hzo] at heq
        clear hzo
        go_wp2_with (first
          | (have hh := tl; clear hh tl; refine wpList_load_any rfl 31 (.tmp 11) rfl (a.add (k * 6)) rfl [.bool l, .int .u16 p, .int .u32 t, .int .u16 np, .int .u8 ns, .string dl] _ hcw Try.underlying31 rfl size31 ?_)
          | (refine build_none rfl 31 rfl _ built31 ?_))
        go_ret
        exact ⟨ret_intS (by rw [spare_some os k (by rw [HE.out, HZ.out]) HO.out]), rb.alloc rb.size _⟩
      · have HZ := show Hid _ from hzo
        rw [decide_eq_false hzo] at heq
        clear hzo
        go_wp2_with (first
          | (have hh := tl; clear hh tl; refine wpList_load_any rfl 31 (.tmp 11) rfl (a.add (k * 6)) rfl [.bool l, .int .u16 p, .int .u32 t, .int .u16 np, .int .u8 ns, .string dl] _ hcw Try.underlying31 rfl size31 ?_)
          | (refine build_none rfl 31 rfl _ built31 ?_))
        go_roundw
        case rel =>
          refine ⟨k + 1, by go_num, by omega, fun i o hi ho => ?_, rb.alloc rb.size _, r0.alloc _⟩
          by_cases e : i = k
          · subst e; rw [HE.out] at ho; cases ho; exact HZ.out
          · exact HO.out i o (by omega) ho
        case measure => simp [intOf]; omega
    · obtain rfl : k = n := by omega
      have hkn' : ¬ (k : Int) < (k : Int) := by omega
      have c1 := row_at r0 1 _ rfl
      go_wp2
      go_ret
      exact ⟨ret_intS (by rw [spare_none os (fun i o ho => HO.out i o (by rw [← HN.out]; exact (List.getElem?_eq_some_iff.1 ho).1) ho), HN.out]), rb⟩

set_option maxHeartbeats 1000000 in
theorem end_any (lsn : Int) (v : Value) (os : List O) (w : World) (ho : Olds w v os) (hn : os.length ≤ 1000000000) :
    Calls Try.prog 88 #[.agg #[.int .u64 lsn, v]] w fun e w' => e = .returned (.int .i64 (endAt os os.length)) ∧ Below w.heap.size w w' := by
  obtain ⟨oa, cap, rfl, hcs⟩ := ho.hold
  have HCS : Hid _ := hcs
  clear hcs ho
  obtain ⟨n, HN⟩ : ∃ n, Hid (os.length = n) := ⟨_, rfl⟩
  rw [HN.out] at HCS hn ⊢
  have hz := zero31
  have ab : Below w.heap.size w (w.alloc (.cells #[.int .u64 lsn, .slice oa n cap] 82)) := (Below.refl _ _).alloc (Nat.le_refl _) _
  go_enter Try.func88, Try.ntmps88
  go_wp2
  go_loopw [3] (fun d wr => ∃ (k : Nat), d = .int .i64 k ∧ k ≤ n ∧ Hid (endAt os n = endAt os k) ∧ Below w.heap.size w wr ∧ Row wr w.heap.size #[.int .u64 lsn, .slice oa n cap] 82) (fun d _ => (intOf d).toNat)
  case atStart => exact ⟨n, rfl, by omega, rfl, ab, Row.new _ _ _⟩
  case round =>
    clear ab
    obtain ⟨k, rfl, hk, HO, rb, r0⟩ := hrel
    have c1 := row_at r0 1 _ rfl
    cases k with
    | zero =>
      go_wp2
      go_ret
      exact ⟨ret_intS (by rw [HO.out]; rfl), rb⟩
    | succ m =>
      have hm1 : (m : Int) + 1 > 0 := by omega
      have hm2 : IntKind.i64.wrap ((m : Int) + 1 - 1) = m := by rw [IntKind.wrap_i64]; omega
      have hm3 : (m : Int) < (n : Int) := by omega
      obtain ⟨a, l, p, t, np, ns, dl, rfl, he, hcell⟩ := HCS.out m (by omega)
      have hcw : ∀ j u, [Value.bool l, .int .u16 p, .int .u32 t, .int .u16 np, .int .u8 ns, .string dl][j]? = some u → wr.cell? ((a.add (m * 6)).add j) = some u := fun j u hj => cell_keep (hcell j u hj) rb
      have heq : ∀ w, (Op.equalIn 10000 31 (.agg #[.bool l, .int .u16 p, .int .u32 t, .int .u16 np, .int .u8 ns, .string dl]) (.agg #[.bool false, .int .u16 0, .int .u32 0, .int .u16 0, .int .u8 0, .string ByteArray.empty])).run Try.prog w = .ok (decide ((⟨l, p, t, np, ns, dl⟩ : O) = O.zero)) w := fun w => equal31 ⟨l, p, t, np, ns, dl⟩ O.zero w
      have tl : Hid (1 = 1) := rfl
      have HE := show Hid _ from he
      clear he hcell
      by_cases hzo : (⟨l, p, t, np, ns, dl⟩ : O) = O.zero
      · have HZ := show Hid _ from hzo
        rw [decide_eq_true hzo] at heq
        clear hzo
        go_wp2_with (first
          | (have hh := tl; clear hh tl; refine load_any_g rfl 31 (.tmp 14) rfl (a.add (m * 6)) rfl [.bool l, .int .u16 p, .int .u32 t, .int .u16 np, .int .u8 ns, .string dl] _ hcw Try.underlying31 rfl size31 ?_)
          | (refine build_none_g rfl 31 rfl _ built31 ?_))
        go_roundw
        case rel => exact ⟨m, by go_num, by omega, by rw [HO.out, endAt_succ, HE.out, HZ.out, if_pos rfl]; rfl, rb, r0⟩
        case measure => simp [intOf]
      · have HZ := show Hid _ from hzo
        rw [decide_eq_false hzo] at heq
        clear hzo
        go_wp2_with (first
          | (have hh := tl; clear hh tl; refine load_any_g rfl 31 (.tmp 14) rfl (a.add (m * 6)) rfl [.bool l, .int .u16 p, .int .u32 t, .int .u16 np, .int .u8 ns, .string dl] _ hcw Try.underlying31 rfl size31 ?_)
          | (refine build_none_g rfl 31 rfl _ built31 ?_))
        go_ret
        exact ⟨ret_intS (by rw [HO.out, endAt_succ, HE.out, if_neg (by simpa using HZ.out)]; simp), rb⟩
end Go.Proofs.Ytihjapfgllokgaa
