/-
  Proved here: a copy of an undo page (slices.Clone, slot.cloned, and the document's Kept) has the same records, in new memory. Proved here: the first spare slot (slot.spare), and where the records end (slot.end). Proved here: a live record by its slot (slot.Get); a page without a record (slot.Free); a page in which nothing follows one (slot.Cut). Plain facts on lists of records in memory of their own: one is changed, the last ones are left off, one is added.
-/
import Derived.Test.YtihjapfgllokgabCopy
import Derived.Laws.Cover3
namespace Go.Proofs.Ytihjapfgllokgab
open Go.ChangeShapes Go.WideShapes Go.ChangeAt Go.RowKit
set_option linter.unusedVariables false
set_option linter.unusedSimpArgs false
set_option maxRecDepth 20000

theorem eql_nil (a : Option Addr) (l c : Nat) (w : World) : (binOp .eql 62 (.slice a l c) (.slice none 0 0)).run Try.prog w = .ok (.bool a.isNone) w := by
  simp only [binOp]
  simp [run_equal_slice_nil w 62 35 a l c Try.underlying62]
theorem clone_any (v : Value) (os : List O) (w : World) (h : Olds w v os) (hn : os.length ≤ 1000000000) : Calls Try.prog 73 #[v] w fun e w' => Cop w os e w' := by
  have hr := fun ty => run_copy w ty v os h hn
  have HR : Hid _ := hr
  clear hr
  have hcase : (v = .slice none 0 0 ∧ os = []) ∨ ∃ a n cap, v = .slice (some a) n cap := by
    rcases h with h | ⟨a, cap, rfl, _⟩
    · exact Or.inl h
    · exact Or.inr ⟨a, _, cap, rfl⟩
  clear h
  rcases hcase with ⟨rfl, rfl⟩ | ⟨a, n, cap, rfl⟩
  · have hq := eql_nil none 0 0
    simp only [Option.isNone] at hq
    go_enter Try.func73, Try.ntmps73
    go_wp2
    go_ret
    exact ⟨_, rfl, ⟨rfl, Or.inl ⟨rfl, rfl⟩⟩, Below.refl _ _⟩
  · have hq := eql_nil (some a) n cap
    simp only [Option.isNone] at hq
    go_enter Try.func73, Try.ntmps73
    go_wp2_with (at_builtin; refine wpList_copy rfl (.tmp 5) (.tmp 6) 62 rfl _ _ rfl rfl (T := fun v' w' => Own w' w.heap.size v' os ∧ Below w.heap.size w w') (fun ty => HR.out ty) ?_; intro v' w' hT)
    go_ret
    exact ⟨v', rfl, hT⟩
set_option maxHeartbeats 1000000 in
theorem cloned_any (lsn : Int) (v : Value) (os : List O) (w : World) (h : Olds w v os) (hn : os.length ≤ 1000000000) : Calls Try.prog 67 #[.agg #[.int .u64 lsn, v]] w fun e w' => CopU w lsn os e w' := by
  obtain ⟨oa, cap, rfl, _⟩ := h.open
  obtain ⟨n, HN⟩ : ∃ n, Hid (os.length = n) := ⟨_, rfl⟩
  rw [HN.out] at h ⊢
  have r0 : Row ((w.alloc (.cells #[.int .u64 lsn, .slice oa n cap] 64)).alloc (.cells #[.int .u64 0, .slice none 0 0] 64)) w.heap.size #[.int .u64 lsn, .slice oa n cap] 64 := (Row.new _ _ _).alloc _
  have r1 : Row ((w.alloc (.cells #[.int .u64 lsn, .slice oa n cap] 64)).alloc (.cells #[.int .u64 0, .slice none 0 0] 64)) (w.heap.size + 1) #[.int .u64 0, .slice none 0 0] 64 := by have := Row.new (w.alloc (.cells #[.int .u64 lsn, .slice oa n cap] 64)) #[.int .u64 0, .slice none 0 0] 64; simpa using this
  have ab : Below w.heap.size w ((w.alloc (.cells #[.int .u64 lsn, .slice oa n cap] 64)).alloc (.cells #[.int .u64 0, .slice none 0 0] 64)) := ((Below.refl _ _).alloc (Nat.le_refl _) _).alloc (by simp) _
  have hz := zero64
  have hsz : Hid (((w.alloc (.cells #[.int .u64 lsn, .slice oa n cap] 64)).alloc (.cells #[.int .u64 0, .slice none 0 0] 64)).heap.size = w.heap.size + 2) := by simp [Hid]
  go_enter Try.func67, Try.ntmps67
  go_upto_region 1 with fail
  generalize (w.alloc (.cells #[.int .u64 lsn, .slice oa n cap] 64)).alloc (.cells #[.int .u64 0, .slice none 0 0] 64) = w1 at r0 r1 ab hsz ⊢
  refine wp_region_held_drew (S := fun w' => Row w' w.heap.size #[.int .u64 lsn, .slice oa n cap] 64) (by kernel_rfl) r0 fun hS => ?_
  refine wpAnyH_take (i := 0) (v := .pointer (some ⟨w.heap.size, 0, none⟩)) rfl (by kernel_rfl) (by kernel_rfl) (by kernel_rfl) (fun _ _ _ h => h) (Or.inl ⟨by rfl, fun w _ => by go_simp⟩) hS ?_
  try simp only [Act.put, List.getElem_toArray, List.getElem_cons_zero, List.getElem_cons_succ, List.setIfInBounds_toArray, List.set_cons_zero, List.set_cons_succ]
  refine wpAnyH_take (i := 1) (v := .int .u64 lsn) rfl (by kernel_rfl) (by kernel_rfl) (by kernel_rfl) (fun _ _ _ h => h) (Or.inl ⟨by rfl, fun w h => by have c := row_at h 0 _ rfl; go_simp⟩) hS ?_
  try simp only [Act.put, List.getElem_toArray, List.getElem_cons_zero, List.getElem_cons_succ, List.setIfInBounds_toArray, List.set_cons_zero, List.set_cons_succ]
  refine wpAnyH_take (i := 2) (v := .pointer (some ⟨w.heap.size, 1, none⟩)) rfl (by kernel_rfl) (by kernel_rfl) (by kernel_rfl) (fun _ _ _ h => h) (Or.inl ⟨by rfl, fun w _ => by go_simp⟩) hS ?_
  try simp only [Act.put, List.getElem_toArray, List.getElem_cons_zero, List.getElem_cons_succ, List.setIfInBounds_toArray, List.set_cons_zero, List.set_cons_succ]
  refine wpAnyH_take (i := 3) (v := .slice oa n cap) rfl (by kernel_rfl) (by kernel_rfl) (by kernel_rfl) (fun _ _ _ h => h) (Or.inl ⟨by rfl, fun w h => by have c := row_at h 1 _ rfl; go_simp⟩) hS ?_
  try simp only [Act.put, List.getElem_toArray, List.getElem_cons_zero, List.getElem_cons_succ, List.setIfInBounds_toArray, List.set_cons_zero, List.set_cons_succ]
  refine wpAnyH_ready (rs := [4]) (by kernel_rfl) (by simp) ?_
  refine AllReadyH.cons rfl (fun K hK => ?_) AllReadyH.nil
  go_simp
  go_at_call 73
  refine (clone_any _ os _ (h.keep (ab.trans (Below.refl _ _).drew)) hn).mono ?_
  rintro e wc ⟨v', rfl, hO, hcb⟩
  refine hK.out _ _ (hS.below hcb hS.lt) fun hS => ?_
  try simp only [Act.put, List.getElem_toArray, List.getElem_cons_zero, List.getElem_cons_succ, List.setIfInBounds_toArray, List.set_cons_zero, List.set_cons_succ]
  have r2 := Row.below (w := w1.drew) r1 hcb r1.lt
  obtain ⟨oa', cap', rfl⟩ := hO.form
  have bc : Below w.heap.size w wc := (ab.trans (Below.refl _ _).drew).trans (hcb.mono (by simp [hsz.out]))
  have hO2 : Own wc (w.heap.size + 2) (.slice oa' os.length cap') os := hO.base (by simp [hsz.out])
  refine wpAnyH_take (i := 5) (v := .agg #[.int .u64 lsn, .slice oa' os.length cap']) rfl (by kernel_rfl) (by kernel_rfl) (by kernel_rfl) (fun _ _ _ h => h) (Or.inl ⟨by rfl, fun w _ => by go_simp⟩) hS ?_
  try simp only [Act.put, List.getElem_toArray, List.getElem_cons_zero, List.getElem_cons_succ, List.setIfInBounds_toArray, List.set_cons_zero, List.set_cons_succ]
  refine wpAnyH_ready (rs := [6]) (by kernel_rfl) (by simp) ?_
  refine AllReadyH.cons rfl (fun K hK => step_cells rfl 64 (.tmp 2) (.tmp 8) rfl (w.heap.size + 1) #[.int .u64 lsn, .slice oa' os.length cap'] rfl rfl 64 _ r2 2 size64 rfl rfl (by simp [Value.oneCell']) (hK.out _ _ (hS.other (by omega) _) fun hS => ?_)) AllReadyH.nil
  try simp only [Act.put, List.getElem_toArray, List.getElem_cons_zero, List.getElem_cons_succ, List.setIfInBounds_toArray, List.set_cons_zero, List.set_cons_succ]
  refine wpAnyH_done (by kernel_rfl) ?_ _
  go_wp2
  refine bodyPost_ret (v := .agg #[.int .u64 lsn, .slice oa' os.length cap']) ?_ rfl ⟨_, rfl, (hO2.setRow (w.heap.size + 1) (by omega) _).base (by omega), below_setRow bc (by omega) _⟩
  exact ret_cell (fn := Try.f67) rfl _ _ (w.heap.size + 1) 64 #[.int .u64 lsn, .slice oa' os.length cap'] _ rfl (r2.set _) Try.underlying64 rfl size64
end Go.Proofs.Ytihjapfgllokgab
namespace Go.Proofs.Ytihjapfgllokgab
open Go.ChangeShapes Go.WideShapes Go.ChangeAt Go.RowKit
set_option linter.unusedVariables false
set_option linter.unusedSimpArgs false
set_option maxRecDepth 20000

/-- The first empty one's place. -/
def spareAt (os : List O) : Nat := os.findIdx (fun o => decide (o = O.zero))
/-- Where the records end, at n or ahead of it. -/
def endAt (os : List O) : Nat → Nat
  | 0 => 0
  | n + 1 => if os[n]? = some O.zero then endAt os n else n + 1
theorem endAt_succ (os : List O) (m : Nat) : endAt os (m + 1) = if os[m]? = some O.zero then endAt os m else m + 1 := rfl
theorem ret_intS {a b : Int} (h : a = b) : Ending.returned (.int .i64 a) = Ending.returned (.int .i64 b) := by rw [h]
theorem spare_none (os : List O) (h : ∀ (i : Nat) (o : O), os[i]? = some o → o ≠ O.zero) : spareAt os = os.length := by
  unfold spareAt
  rw [List.findIdx_eq_length]
  intro o ho
  obtain ⟨i, hi⟩ := List.getElem?_of_mem ho
  exact decide_eq_false (h i o hi)
theorem spare_some (os : List O) (k : Nat) (hk : os[k]? = some O.zero) (h : ∀ (i : Nat) (o : O), i < k → os[i]? = some o → o ≠ O.zero) : spareAt os = k := by
  have hl : k < os.length := (List.getElem?_eq_some_iff.1 hk).1
  unfold spareAt
  rw [List.findIdx_eq hl]
  have e : os[k] = O.zero := by have := List.getElem?_eq_getElem hl; rw [this] at hk; simpa using hk
  refine ⟨by rw [e]; simp, fun j hj => ?_⟩
  exact decide_eq_false (h j os[j] hj (by simp))

theorem load_any_g {P : Program} {ops : Array Oper} {rest : List Oper} {op : Oper} {a : Act} {w : World} {Q : Exit → Act → World → Prop} (hgd : Region.wanted op (yielded ops a.tmps) = true) (ty : TypeId) (x : Operand) (ho : op.op = .load ty x)
    (p : Addr) (hx : a.eval x = .pointer (some p)) (cs : List Value) (d : TypeDesc) (hc : ∀ j v, cs[j]? = some v → w.cell? (p.add j) = some v)
    (hu : P.underlying ty = some d) (hd : d.isRow = true) (hi : (P.info? ty).map (·.size) = some cs.length)
    (h : wpList P ops Q rest (a.put op.dst (.agg cs.toArray)) w) : wpList P ops Q (op :: rest) a w := by
  refine BigFrame.wpList_want hgd fun K hK => ?_
  have hl : (loadCells p cs.length).run P w = .ok cs.toArray w := run_loadCells_list (P := P) w p cs hc
  have hrun : (loadVar ty p).run P w = .ok (.agg cs.toArray) w := by
    cases hq : P.info? ty with
    | none => simp [hq] at hi
    | some i =>
      have hs : i.size = cs.length := by simpa [hq] using hi
      have hagg : (isAgg ty).run P w = .ok true w := by
        unfold isAgg
        rw [Sem.run_bind, run_underlying hu w]
        cases d <;> simp_all
      simp [loadVar, Sem.run_bind, hagg, sizeOf, typeInfo, hq, hs, hl]
  unfold Oper.wp execOp
  simp only [ho, hx, Instr.loadAt, Instr.sureAddr, Sem.run_bind, Sem.run_pure, Result.andThen_ok, hrun]
  exact hK _ _ h

set_option maxHeartbeats 1000000 in
theorem spare_any (lsn : Int) (v : Value) (os : List O) (w : World) (ho : Olds w v os) (hn : os.length ≤ 1000000000) :
    Calls Try.prog 68 #[.agg #[.int .u64 lsn, v]] w fun e w' => e = .returned (.int .i64 (spareAt os)) ∧ Below w.heap.size w w' := by
  obtain ⟨oa, cap, rfl, hcs⟩ := ho.hold
  have HCS : Hid _ := hcs
  clear hcs ho
  obtain ⟨n, HN⟩ : ∃ n, Hid (os.length = n) := ⟨_, rfl⟩
  rw [HN.out] at HCS hn ⊢
  have hz := zero35
  have ab : Below w.heap.size w (w.alloc (.cells #[.int .u64 lsn, .slice oa n cap] 64)) := (Below.refl _ _).alloc (Nat.le_refl _) _
  go_enter Try.func68, Try.ntmps68
  go_wp2
  go_loopw [8] (fun d wr => ∃ (k : Nat), d = .int .i64 k ∧ k ≤ n ∧ Hid (∀ (i : Nat) (o : O), i < k → os[i]? = some o → o ≠ O.zero) ∧ Below w.heap.size w wr ∧ Row wr w.heap.size #[.int .u64 lsn, .slice oa n cap] 64) (fun d _ => n - (intOf d).toNat)
  case atStart => exact ⟨0, rfl, by omega, fun i o hi => absurd hi (by omega), ab, Row.new _ _ _⟩
  case round =>
    clear ab
    obtain ⟨k, rfl, hk, HO, rb, r0⟩ := hrel
    by_cases hkn : k < n
    · have hkn' : (k : Int) < (n : Int) := by omega
      obtain ⟨a, l, p, t, np, ns, dl, rfl, he, hcell⟩ := HCS.out k hkn
      have hcw : ∀ j u, [Value.bool l, .int .u16 p, .int .u32 t, .int .u16 np, .int .u8 ns, .string dl][j]? = some u → wr.cell? ((a.add (k * 6)).add j) = some u := fun j u hj => cell_keep (hcell j u hj) rb
      have heq : ∀ w, (Op.equalIn 10000 35 (.agg #[.bool l, .int .u16 p, .int .u32 t, .int .u16 np, .int .u8 ns, .string dl]) (.agg #[.bool false, .int .u16 0, .int .u32 0, .int .u16 0, .int .u8 0, .string ByteArray.empty])).run Try.prog w = .ok (decide ((⟨l, p, t, np, ns, dl⟩ : O) = O.zero)) w := fun w => equal35 ⟨l, p, t, np, ns, dl⟩ O.zero w
      have tl : Hid (1 = 1) := rfl
      have HE := show Hid _ from he
      clear he hcell
      by_cases hzo : (⟨l, p, t, np, ns, dl⟩ : O) = O.zero
      · have HZ := show Hid _ from hzo
        rw [decide_eq_true hzo] at heq
        clear hzo
        go_wp2_with (first
          | (have hh := tl; clear hh tl; refine wpList_load_any rfl 35 (.tmp 11) rfl (a.add (k * 6)) rfl [.bool l, .int .u16 p, .int .u32 t, .int .u16 np, .int .u8 ns, .string dl] _ hcw Try.underlying35 rfl size35 ?_)
          | (refine build_none rfl 35 rfl _ built35 ?_))
        go_ret
        exact ⟨ret_intS (by rw [spare_some os k (by rw [HE.out, HZ.out]) HO.out]), rb.alloc rb.size _⟩
      · have HZ := show Hid _ from hzo
        rw [decide_eq_false hzo] at heq
        clear hzo
        go_wp2_with (first
          | (have hh := tl; clear hh tl; refine wpList_load_any rfl 35 (.tmp 11) rfl (a.add (k * 6)) rfl [.bool l, .int .u16 p, .int .u32 t, .int .u16 np, .int .u8 ns, .string dl] _ hcw Try.underlying35 rfl size35 ?_)
          | (refine build_none rfl 35 rfl _ built35 ?_))
        go_roundw
        case rel =>
          refine ⟨k + 1, by go_num, by omega, fun i o hi ho => ?_, rb.alloc rb.size _, r0.alloc _⟩
          by_cases e : i = k
          · subst e; rw [HE.out] at ho; cases ho; exact HZ.out
          · exact HO.out i o (by omega) ho
        case measure => simp [intOf]; omega
    · obtain rfl : k = n := by omega
      have hkn' : ¬ (k : Int) < (k : Int) := by omega
      have c1 := row_at r0 1 _ rfl
      go_wp2
      go_ret
      exact ⟨ret_intS (by rw [spare_none os (fun i o ho => HO.out i o (by rw [← HN.out]; exact (List.getElem?_eq_some_iff.1 ho).1) ho), HN.out]), rb⟩

set_option maxHeartbeats 1000000 in
theorem end_any (lsn : Int) (v : Value) (os : List O) (w : World) (ho : Olds w v os) (hn : os.length ≤ 1000000000) :
    Calls Try.prog 70 #[.agg #[.int .u64 lsn, v]] w fun e w' => e = .returned (.int .i64 (endAt os os.length)) ∧ Below w.heap.size w w' := by
  obtain ⟨oa, cap, rfl, hcs⟩ := ho.hold
  have HCS : Hid _ := hcs
  clear hcs ho
  obtain ⟨n, HN⟩ : ∃ n, Hid (os.length = n) := ⟨_, rfl⟩
  rw [HN.out] at HCS hn ⊢
  have hz := zero35
  have ab : Below w.heap.size w (w.alloc (.cells #[.int .u64 lsn, .slice oa n cap] 64)) := (Below.refl _ _).alloc (Nat.le_refl _) _
  go_enter Try.func70, Try.ntmps70
  go_wp2
  go_loopw [3] (fun d wr => ∃ (k : Nat), d = .int .i64 k ∧ k ≤ n ∧ Hid (endAt os n = endAt os k) ∧ Below w.heap.size w wr ∧ Row wr w.heap.size #[.int .u64 lsn, .slice oa n cap] 64) (fun d _ => (intOf d).toNat)
  case atStart => exact ⟨n, rfl, by omega, rfl, ab, Row.new _ _ _⟩
  case round =>
    clear ab
    obtain ⟨k, rfl, hk, HO, rb, r0⟩ := hrel
    have c1 := row_at r0 1 _ rfl
    cases k with
    | zero =>
      go_wp2
      go_ret
      exact ⟨ret_intS (by rw [HO.out]; rfl), rb⟩
    | succ m =>
      have hm1 : (m : Int) + 1 > 0 := by omega
      have hm2 : IntKind.i64.wrap ((m : Int) + 1 - 1) = m := by rw [IntKind.wrap_i64]; omega
      have hm3 : (m : Int) < (n : Int) := by omega
      obtain ⟨a, l, p, t, np, ns, dl, rfl, he, hcell⟩ := HCS.out m (by omega)
      have hcw : ∀ j u, [Value.bool l, .int .u16 p, .int .u32 t, .int .u16 np, .int .u8 ns, .string dl][j]? = some u → wr.cell? ((a.add (m * 6)).add j) = some u := fun j u hj => cell_keep (hcell j u hj) rb
      have heq : ∀ w, (Op.equalIn 10000 35 (.agg #[.bool l, .int .u16 p, .int .u32 t, .int .u16 np, .int .u8 ns, .string dl]) (.agg #[.bool false, .int .u16 0, .int .u32 0, .int .u16 0, .int .u8 0, .string ByteArray.empty])).run Try.prog w = .ok (decide ((⟨l, p, t, np, ns, dl⟩ : O) = O.zero)) w := fun w => equal35 ⟨l, p, t, np, ns, dl⟩ O.zero w
      have tl : Hid (1 = 1) := rfl
      have HE := show Hid _ from he
      clear he hcell
      by_cases hzo : (⟨l, p, t, np, ns, dl⟩ : O) = O.zero
      · have HZ := show Hid _ from hzo
        rw [decide_eq_true hzo] at heq
        clear hzo
        go_wp2_with (first
          | (have hh := tl; clear hh tl; refine load_any_g rfl 35 (.tmp 14) rfl (a.add (m * 6)) rfl [.bool l, .int .u16 p, .int .u32 t, .int .u16 np, .int .u8 ns, .string dl] _ hcw Try.underlying35 rfl size35 ?_)
          | (refine build_none_g rfl 35 rfl _ built35 ?_))
        go_roundw
        case rel => exact ⟨m, by go_num, by omega, by rw [HO.out, endAt_succ, HE.out, HZ.out, if_pos rfl]; rfl, rb, r0⟩
        case measure => simp [intOf]
      · have HZ := show Hid _ from hzo
        rw [decide_eq_false hzo] at heq
        clear hzo
        go_wp2_with (first
          | (have hh := tl; clear hh tl; refine load_any_g rfl 35 (.tmp 14) rfl (a.add (m * 6)) rfl [.bool l, .int .u16 p, .int .u32 t, .int .u16 np, .int .u8 ns, .string dl] _ hcw Try.underlying35 rfl size35 ?_)
          | (refine build_none_g rfl 35 rfl _ built35 ?_))
        go_ret
        exact ⟨ret_intS (by rw [HO.out, endAt_succ, HE.out, if_neg (by simpa using HZ.out)]; simp), rb⟩
end Go.Proofs.Ytihjapfgllokgab
namespace Go.Proofs.Ytihjapfgllokgab
open Go.ChangeShapes Go.WideShapes Go.ChangeAt Go.RowKit
set_option linter.unusedVariables false
set_option linter.unusedSimpArgs false
set_option maxRecDepth 20000

/-- Which record is told, and whether. -/
def got (os : List O) (s : Nat) : O × Bool := match os[s]? with
  | some o => if may os && o.live then (o, true) else (O.zero, false)
  | none => (O.zero, false)
theorem got_cases (os : List O) (s : Nat) : got os s = (O.zero, false) ∨ ∃ o, os[s]? = some o ∧ may os = true ∧ o.live = true ∧ got os s = (o, true) := by
  unfold got
  cases h : os[s]? with
  | none => exact Or.inl rfl
  | some o =>
    by_cases q : (may os && o.live) = true
    · have q' := q
      simp only [Bool.and_eq_true] at q'
      exact Or.inr ⟨o, rfl, q'.1, q'.2, by simp only; rw [if_pos q]⟩
    · exact Or.inl (by simp only; rw [if_neg q])
theorem row6 {w : World} {g : Nat} {cs : Array Value} {t : TypeId} (h : Row w g cs t) : True := trivial
def Got (w : World) (r : O × Bool) (e : Ending) (w' : World) : Prop := e = .returned (.tuple #[.agg r.1.arr, .bool r.2]) ∧ Below w.heap.size w w'

set_option maxHeartbeats 2000000 in
theorem gets_any (lsn : Int) (v : Value) (os : List O) (s : Nat) (hs : s < 256) (w : World) (ho : Olds w v os) :
    Calls Try.prog 69 #[.agg #[.int .u64 lsn, v], .int .u8 s] w fun e w' => Got w (got os s) e w' := by
  have hmy := fun (wa : World) (hb : Below w.heap.size w wa) => may_any lsn v os wa (ho.keep hb)
  obtain ⟨oa, cap, rfl, hcs⟩ := ho.hold
  have HCS : Hid _ := hcs
  have HMY : Hid _ := hmy
  clear hcs ho hmy
  obtain ⟨n, HN⟩ : ∃ n, Hid (os.length = n) := ⟨_, rfl⟩
  rw [HN.out] at HCS HMY ⊢
  have hz := zero35
  have hws : IntKind.i64.wrap (s : Int) = s := by rw [IntKind.wrap_i64]; omega
  have r0 : Row ((w.alloc (.cells #[.int .u64 lsn, .slice oa n cap] 64)).alloc (.cells #[.bool false, .int .u16 0, .int .u32 0, .int .u16 0, .int .u8 0, .string ByteArray.empty] 35)) w.heap.size #[.int .u64 lsn, .slice oa n cap] 64 := (Row.new _ _ _).alloc _
  have r1 : Row ((w.alloc (.cells #[.int .u64 lsn, .slice oa n cap] 64)).alloc (.cells #[.bool false, .int .u16 0, .int .u32 0, .int .u16 0, .int .u8 0, .string ByteArray.empty] 35)) (w.heap.size + 1) #[.bool false, .int .u16 0, .int .u32 0, .int .u16 0, .int .u8 0, .string ByteArray.empty] 35 := by have := Row.new (w.alloc (.cells #[.int .u64 lsn, .slice oa n cap] 64)) #[.bool false, .int .u16 0, .int .u32 0, .int .u16 0, .int .u8 0, .string ByteArray.empty] 35; simpa using this
  have ab : Below w.heap.size w ((w.alloc (.cells #[.int .u64 lsn, .slice oa n cap] 64)).alloc (.cells #[.bool false, .int .u16 0, .int .u32 0, .int .u16 0, .int .u8 0, .string ByteArray.empty] 35)) := ((Below.refl _ _).alloc (Nat.le_refl _) _).alloc (by simp) _
  go_enter Try.func69, Try.ntmps69
  go_upto_region 1 with fail
  generalize (w.alloc (.cells #[.int .u64 lsn, .slice oa n cap] 64)).alloc (.cells #[.bool false, .int .u16 0, .int .u32 0, .int .u16 0, .int .u8 0, .string ByteArray.empty] 35) = w1 at r0 r1 ab ⊢
  have hm := HMY.out w1 ab
  have rg := range_two r0
  have tl : Hid (1 = 1) := rfl
  have none_ : got os s = (O.zero, false) → ∀ w2, Below w.heap.size w w2 → Row w2 (w.heap.size + 1) #[.bool false, .int .u16 0, .int .u32 0, .int .u16 0, .int .u8 0, .string ByteArray.empty] 35 → True := fun _ _ _ _ => trivial
  clear none_
  go_cut [25] from 6 to 25 (fun c wx => c = .bool (!(got os s).2) ∧ Below w.heap.size w wx ∧ Row wx w.heap.size #[.int .u64 lsn, .slice oa n cap] 64 ∧ Row wx (w.heap.size + 1) #[.bool false, .int .u16 0, .int .u32 0, .int .u16 0, .int .u8 0, .string ByteArray.empty] 35)
  case first =>
    cases hmo : may os
    · have hg : (got os s).2 = false := by unfold got; rw [hmo]; split <;> rfl
      rw [hmo] at hm
      go_wp2_with (first
        | (have hh := tl; clear hh tl; refine wpList_load_mid rfl 64 (.tmp 2) rfl w.heap.size 0 rfl [.int .u64 lsn, .slice oa n cap] _ rg Try.underlying64 rfl size64 ?_)
        | (go_at_call 45; refine hm.mono ?_; rintro e w2 ⟨rfl, b2⟩))
      go_meet
      exact ⟨by rw [hg]; rfl, ab.trans (b2.mono ab.size), r0.below b2 r0.lt, r1.below b2 r1.lt⟩
    · rw [hmo] at hm
      by_cases hsn : s < n
      · have hsn' : (s : Int) < (n : Int) := by omega
        have hsn2 : ¬ (n : Int) ≤ (s : Int) := by omega
        obtain ⟨a, l, p, t, np, ns, dl, rfl, he, hcell⟩ := HCS.out s hsn
        have hc0 := hcell 0 _ rfl
        rw [add_zero] at hc0
        have hg : (got os s).2 = l := by unfold got; rw [he, hmo]; cases l <;> rfl
        have HG := show Hid _ from hg
        have HC0 := show Hid _ from hc0
        clear hg he hcell hc0
        go_wp2_with (first
          | (have hh := tl; clear hh tl; refine wpList_load_mid rfl 64 (.tmp 2) rfl w.heap.size 0 rfl [.int .u64 lsn, .slice (some a) n cap] _ rg Try.underlying64 rfl size64 ?_)
          | (go_at_call 45; refine hm.mono ?_; rintro e w2 ⟨rfl, b2⟩
             have c1 := row_at (r0.below b2 r0.lt) 1 _ rfl
             have cc := cell_keep HC0.out (ab.trans (b2.mono ab.size))))
        go_meet
        exact ⟨by rw [HG.out, decide_eq_false (show ¬ n ≤ s by omega), Bool.false_or], ab.trans (b2.mono ab.size), r0.below b2 r0.lt, r1.below b2 r1.lt⟩
      · have hsn' : (s : Int) ≥ (n : Int) := by omega
        have hg : (got os s).2 = false := by unfold got; rw [List.getElem?_eq_none (by rw [HN.out]; omega)]
        have HG := show Hid _ from hg
        clear hg
        go_wp2_with (first
          | (have hh := tl; clear hh tl; refine wpList_load_mid rfl 64 (.tmp 2) rfl w.heap.size 0 rfl [.int .u64 lsn, .slice oa n cap] _ rg Try.underlying64 rfl size64 ?_)
          | (go_at_call 45; refine hm.mono ?_; rintro e w2 ⟨rfl, b2⟩
             have c1 := row_at (r0.below b2 r0.lt) 1 _ rfl))
        go_meet
        exact ⟨by rw [HG.out]; rfl, ab.trans (b2.mono ab.size), r0.below b2 r0.lt, r1.below b2 r1.lt⟩
  case rest =>
    obtain ⟨rfl, bx, s0, s1⟩ := hcut
    clear r0 r1 ab rg hm
    rcases got_cases os s with hg | ⟨o, he0, _, hl, hg⟩
    · rw [hg]
      simp only [Bool.not_false]
      have HG := show Hid _ from hg
      clear hg
      go_wp2_with (first
        | (refine build_none rfl 35 rfl _ built35 ?_)
        | (refine store_cells rfl 35 (.tmp 4) (.tmp 26) rfl (w.heap.size + 1) #[.bool false, .int .u16 0, .int .u32 0, .int .u16 0, .int .u8 0, .string ByteArray.empty] rfl rfl 35 _ s1 6 size35 rfl rfl (by simp [Value.oneCell']) ?_))
      refine bodyPost_ret (v := .tuple #[.agg O.zero.arr, .bool false]) ?_ rfl ⟨by rw [HG.out], below_setRow bx (by omega) _⟩
      exact ret_cell2 (fn := Try.f69) rfl _ _ (w.heap.size + 1) 35 _ _ _ rfl rfl (s1.set _) Try.underlying35 rfl size35
    · rw [hg]
      simp only [Bool.not_true]
      have hsn : s < n := by rw [← HN.out]; exact (List.getElem?_eq_some_iff.1 he0).1
      have hsn' : (s : Int) < (n : Int) := by omega
      obtain ⟨a, l, p, t, np, ns, dl, rfl, he, hcell⟩ := HCS.out s hsn
      rw [he0] at he
      obtain rfl : o = ⟨l, p, t, np, ns, dl⟩ := by simpa using he
      obtain rfl : l = true := hl
      have HG := show Hid _ from hg
      have hcw : ∀ j u, [Value.bool true, .int .u16 p, .int .u32 t, .int .u16 np, .int .u8 ns, .string dl][j]? = some u → wc.cell? ((a.add (s * 6)).add j) = some u := fun j u hj => cell_keep (hcell j u hj) bx
      have c1 := row_at s0 1 _ rfl
      clear hg he he0 hcell
      go_wp2_with (first
        | (have hh := tl; clear hh tl; refine wpList_load_any rfl 35 (.tmp 30) rfl (a.add (s * 6)) rfl [.bool true, .int .u16 p, .int .u32 t, .int .u16 np, .int .u8 ns, .string dl] _ hcw Try.underlying35 rfl size35 ?_)
        | (refine store_cells rfl 35 (.tmp 4) (.tmp 31) rfl (w.heap.size + 1) #[.bool true, .int .u16 p, .int .u32 t, .int .u16 np, .int .u8 ns, .string dl] rfl rfl 35 _ s1 6 size35 rfl rfl (by simp [Value.oneCell']) ?_))
      refine bodyPost_ret (v := .tuple #[.agg (O.arr ⟨true, p, t, np, ns, dl⟩), .bool true]) ?_ rfl ⟨by rw [HG.out], below_setRow bx (by omega) _⟩
      exact ret_cell2 (fn := Try.f69) rfl _ _ (w.heap.size + 1) 35 _ _ _ rfl rfl (s1.set _) Try.underlying35 rfl size35
end Go.Proofs.Ytihjapfgllokgab
namespace Go.Proofs.Ytihjapfgllokgab
open Go.ChangeShapes Go.WideShapes Go.ChangeAt Go.RowKit
set_option linter.unusedVariables false
set_option linter.unusedSimpArgs false
set_option maxRecDepth 20000

def setMany (cs : Array Value) (o : Nat) : List Value → Array Value
  | [] => cs
  | v :: r => setMany (cs.setIfInBounds o v) (o + 1) r
theorem setMany_size : ∀ (vs : List Value) (cs : Array Value) (o : Nat), (setMany cs o vs).size = cs.size
  | [], _, _ => rfl
  | v :: r, cs, o => by unfold setMany; rw [setMany_size r]; simp
theorem setMany_at : ∀ (vs : List Value) (cs : Array Value) (o j : Nat), o + vs.length ≤ cs.size → (setMany cs o vs)[j]? = if o ≤ j ∧ j < o + vs.length then vs[j - o]? else cs[j]?
  | [], cs, o, j, _ => by rw [if_neg (by simp)]; rfl
  | v :: r, cs, o, j, h => by
    unfold setMany
    simp only [List.length_cons] at h ⊢
    rw [setMany_at r _ (o + 1) j (by simp; omega)]
    by_cases e : j = o
    · subst e
      rw [if_neg (by omega), if_pos (by omega), Nat.sub_self, Array.getElem?_setIfInBounds, if_pos rfl, if_pos (by omega)]; rfl
    · by_cases q : o + 1 ≤ j ∧ j < o + 1 + r.length
      · rw [if_pos q, if_pos (by omega), show j - o = (j - (o + 1)) + 1 by omega, List.getElem?_cons_succ]
      · rw [if_neg q, if_neg (by omega), Array.getElem?_setIfInBounds, if_neg (by omega)]
theorem row_setMany (g : Nat) : ∀ (vs : List Value) (o : Nat) (w : World) (cs : Array Value) (t : TypeId), Row w g cs t → Row (w.setCells g o vs) g (setMany cs o vs) t
  | [], _, _, _, _, h => h
  | v :: r, o, w, cs, t, h => by
    rw [World.setCells]; unfold setMany
    exact row_setMany g r (o + 1) _ _ t (row_set h o v)
theorem flat_get (os : List O) (j : Nat) : (flat os)[j]? = (os[j / 6]?).bind (fun o => o.cells[j % 6]?) := by
  have e : j = j / 6 * 6 + j % 6 := by omega
  cases h : os[j / 6]? with
  | some o =>
    have := flat_at os (j / 6) (j % 6) o h (by omega)
    rw [← e] at this; rw [this]; rfl
  | none =>
    have hl : os.length ≤ j / 6 := by simpa using h
    rw [List.getElem?_eq_none (by rw [flat_length]; omega)]; rfl
theorem Own.blkS {w : World} {base : Nat} {v : Value} {os : List O} (h : Own w base v os) (hn : 0 < os.length) : ∃ g cap, v = .slice (some ⟨g, 0, none⟩) os.length cap ∧ base ≤ g := by
  rcases h.2 with ⟨rfl, h2⟩ | ⟨g, cap, cur, rfl, hb, _⟩
  · omega
  · exact ⟨g, cap, rfl, hb⟩
theorem Own.there {w : World} {base g n cap : Nat} {os : List O} (h : Own w base (.slice (some ⟨g, 0, none⟩) n cap) os) (s : Nat) (hs : s < os.length) : w.there g (s * 6) 6 := fun j hj => by
  rcases h.2 with ⟨q, _⟩ | ⟨g', cap', cur, q, hb, hc, hle, _, hsz, _⟩
  · cases q
  · cases q
    have r : Row w g cur 35 := hc
    refine ⟨?_, row_frozen r _⟩
    have hm : os.length * 6 ≤ cap * 6 := Nat.mul_le_mul_right _ hle
    rw [cell_of_row w g _ _ _ _ r, Array.getElem?_eq_getElem (by rw [hsz]; omega)]; rfl
theorem Own.put {w : World} {base g n cap : Nat} {os : List O} (h : Own w base (.slice (some ⟨g, 0, none⟩) n cap) os) (s : Nat) (hs : s < os.length) (o : O) : Own (w.setCells g (s * 6) o.cells) base (.slice (some ⟨g, 0, none⟩) n cap) (os.set s o) := by
  obtain ⟨h1, h2⟩ := h
  rcases h2 with ⟨q, _⟩ | ⟨g', cap', cur, q, hb, hc, hle, hmx, hsz, ht⟩
  · cases q
  · cases q
    have r : Row w g cur 35 := hc
    have hm : os.length * 6 ≤ cap * 6 := Nat.mul_le_mul_right _ hle
    refine ⟨by rw [flat_length], Or.inr ⟨g, cap, _, by rw [List.length_set], hb, row_setMany g o.cells (s * 6) w cur 35 r, by simpa using hle, hmx, by rw [setMany_size]; exact hsz, ?_⟩⟩
    apply List.ext_getElem?
    intro j
    rw [List.length_set, flat_get, List.getElem?_take]
    by_cases hj : j < os.length * 6
    · rw [if_pos hj, Array.getElem?_toList, setMany_at _ _ _ _ (by rw [O.cells_length, hsz]; omega), O.cells_length, List.getElem?_set]
      have e : (flat os)[j]? = cur[j]? := by rw [← ht, List.getElem?_take, if_pos hj, Array.getElem?_toList]
      by_cases q : s * 6 ≤ j ∧ j < s * 6 + 6
      · have e1 : s = j / 6 := by omega
        rw [if_pos q, if_pos e1, if_pos (by omega)]
        show _ = o.cells[j % 6]?
        congr 1; omega
      · rw [if_neg q, if_neg (by omega), ← e, flat_get]
    · rw [if_neg hj]
      rw [List.getElem?_eq_none (by simp; omega)]; rfl
theorem Own.cut {w : World} {base g n cap : Nat} {os : List O} (h : Own w base (.slice (some ⟨g, 0, none⟩) n cap) os) (k : Nat) (hk : k ≤ os.length) : Own w base (.slice (some ⟨g, 0, none⟩) k cap) (os.take k) := by
  obtain ⟨h1, h2⟩ := h
  rcases h2 with ⟨q, _⟩ | ⟨g', cap', cur, q, hb, hc, hle, hmx, hsz, ht⟩
  · cases q
  · cases q
    have hlk : (os.take k).length = k := by simp; omega
    refine ⟨by rw [flat_length], Or.inr ⟨g, cap, cur, by rw [hlk], hb, hc, by rw [hlk]; omega, hmx, hsz, ?_⟩⟩
    rw [hlk]
    apply List.ext_getElem?
    intro j
    rw [flat_get, List.getElem?_take]
    by_cases hj : j < k * 6
    · have e : (flat os)[j]? = cur.toList[j]? := by rw [← ht, List.getElem?_take, if_pos (by omega)]
      rw [if_pos hj, List.getElem?_take, if_pos (by omega), ← e, flat_get]
    · rw [if_neg hj, List.getElem?_take, if_neg (by omega)]; rfl
theorem Own.other {w : World} {base : Nat} {v : Value} {os : List O} (h : Own w base v os) (j o : Nat) (x : Value) (hj : j < base) : Own (w.setCell ⟨j, o, none⟩ x) base v os := by
  obtain ⟨h1, h2⟩ := h
  refine ⟨h1, ?_⟩
  rcases h2 with h2 | ⟨g, cap, cur, rfl, hb', hc, rest⟩
  · exact Or.inl h2
  · exact Or.inr ⟨g, cap, cur, rfl, hb', by rw [Below.heap_setCell w _ x g (by show g ≠ j; omega)]; exact hc, rest⟩
theorem below_setCells {B g : Nat} {a : World} (hg : B ≤ g) : ∀ (vs : List Value) (o : Nat) (w : World), Below B a w → Below B a (w.setCells g o vs)
  | [], _, _, h => h
  | v :: r, o, w, h => by
    rw [World.setCells]
    exact below_setCells hg r (o + 1) _ (h.setCell (p := ⟨g, o, none⟩) hg v)
theorem Row.cells {w : World} {k : Nat} {cs : Array Value} {t : TypeId} (h : Row w k cs t) (g : Nat) (hg : k ≠ g) : ∀ (vs : List Value) (o : Nat), Row (w.setCells g o vs) k cs t := by
  intro vs
  induction vs generalizing w with
  | nil => intro o; exact h
  | cons v r ih => intro o; rw [World.setCells]; exact ih (row_setCell_other h hg o v) (o + 1)
end Go.Proofs.Ytihjapfgllokgab
