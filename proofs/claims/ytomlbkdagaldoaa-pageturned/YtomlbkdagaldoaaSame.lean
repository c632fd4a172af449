/-
  Proved here: two undo pages that are alike are told so (the document's SameUndo), a copy of a page of any length (Kept); and the statements' arguments: undo pages as values that came in.
-/
import Derived.Test.YtomlbkdagaldoaaOpn
namespace Go.Proofs.Ytomlbkdagaldoaa
open Go.ChangeShapes Go.WideShapes Go.ChangeAt Go.RowKit
open Go.Deep
set_option linter.unusedVariables false
set_option linter.unusedSimpArgs false

theorem flat_get (os : List O) (j : Nat) : (flat os)[j]? = (os[j / 6]?).bind (fun o => o.cells[j % 6]?) := by
  have e : j = j / 6 * 6 + j % 6 := by omega
  cases h : os[j / 6]? with
  | some o =>
    have := flat_at os (j / 6) (j % 6) o h (by omega)
    rw [← e] at this; rw [this]; rfl
  | none =>
    have hl : os.length ≤ j / 6 := by simpa using h
    rw [List.getElem?_eq_none (by rw [flat_length]; omega)]; rfl
theorem yields_any {P : Program} {ops : Array Oper} {S : World → Prop} {op : Oper} {a : Act} (hw : Region.wanted op (yielded ops a.tmps) = true) (ty : TypeId) (x : Operand) (ho : op.op = .load ty x)
    (p : Addr) (hx : a.eval x = .pointer (some p)) (cs : List Value) {d : TypeDesc} (hc : ∀ w, S w → ∀ j v, cs[j]? = some v → w.cell? (p.add j) = some v)
    (hu : P.underlying ty = some d) (hd : d.isRow = true) (hi : (P.info? ty).map (·.size) = some cs.length) : YieldsIf P ops S op (.agg cs.toArray) a := by
  refine Or.inl ⟨hw, fun w hS => ?_⟩
  have hl : (loadCells p cs.length).run P w = .ok cs.toArray w := run_loadCells_list (P := P) w p cs (hc w hS)
  have hrun : (loadVar ty p).run P w = .ok (.agg cs.toArray) w := by
    cases hq : P.info? ty with
    | none => simp [hq] at hi
    | some i =>
      have hs : i.size = cs.length := by simpa [hq] using hi
      have hagg : (isAgg ty).run P w = .ok true w := by
        unfold isAgg
        rw [Sem.run_bind, run_underlying hu w]
        cases d <;> simp_all
      simp [loadVar, Sem.run_bind, hagg, sizeOf, typeInfo, hq, hs, hl]
  unfold execOp
  simp only [ho, hx, Instr.loadAt, Instr.sureAddr, Sem.run_bind, Sem.run_pure, Result.andThen_ok, hrun]

set_option maxHeartbeats 2000000 in
theorem same_any (lsn : Int) (v v2 : Value) (os : List O) (w : World) (ho : Olds w v os) (ho2 : Olds w v2 os) (hn : os.length * 32 ≤ 140737488355328) :
    Calls Try.prog 24 #[.agg #[.int .u64 lsn, v], .agg #[.int .u64 lsn, v2]] w fun e w' => e = .returned (.bool true) ∧ Below w.heap.size w w' := by
  obtain ⟨oa, cap, rfl, hcs⟩ := ho.hold
  obtain ⟨oa2, cap2, rfl, hcs2⟩ := ho2.hold
  have HCS : Hid _ := hcs
  have HCS2 : Hid _ := hcs2
  clear hcs hcs2 ho ho2
  obtain ⟨n, HN⟩ : ∃ n, Hid (os.length = n) := ⟨_, rfl⟩
  rw [HN.out] at HCS HCS2 hn ⊢
  have r0 : Row ((w.alloc (.cells #[.int .u64 lsn, .slice oa n cap] 44)).alloc (.cells #[.int .u64 lsn, .slice oa2 n cap2] 44)) w.heap.size #[.int .u64 lsn, .slice oa n cap] 44 := (Row.new _ _ _).alloc _
  have r1 : Row ((w.alloc (.cells #[.int .u64 lsn, .slice oa n cap] 44)).alloc (.cells #[.int .u64 lsn, .slice oa2 n cap2] 44)) (w.heap.size + 1) #[.int .u64 lsn, .slice oa2 n cap2] 44 := by have := Row.new (w.alloc (.cells #[.int .u64 lsn, .slice oa n cap] 44)) #[.int .u64 lsn, .slice oa2 n cap2] 44; simpa using this
  have ab : Below w.heap.size w ((w.alloc (.cells #[.int .u64 lsn, .slice oa n cap] 44)).alloc (.cells #[.int .u64 lsn, .slice oa2 n cap2] 44)) := ((Below.refl _ _).alloc (Nat.le_refl _) _).alloc (by simp) _
  go_enter Try.func24, Try.ntmps24
  go_wp2
  go_loopw [23] (fun d wr => ∃ (k : Nat), d = .int .i64 k ∧ k ≤ n ∧ Below w.heap.size w wr ∧ Row wr w.heap.size #[.int .u64 lsn, .slice oa n cap] 44 ∧ Row wr (w.heap.size + 1) #[.int .u64 lsn, .slice oa2 n cap2] 44) (fun d _ => n - (intOf d).toNat)
  case atStart => exact ⟨0, rfl, by omega, ab, r0, r1⟩
  case round =>
    clear ab r0 r1
    obtain ⟨k, rfl, hk, rb, r0, r1⟩ := hrel
    by_cases hkn : k < n
    · have hkn' : (k : Int) < (n : Int) := by omega
      obtain ⟨a, l, p, t, np, ns, dl, rfl, he, hc1⟩ := HCS.out k hkn
      obtain ⟨a2, l2, p2, t2, np2, ns2, dl2, rfl, he2, hc2⟩ := HCS2.out k hkn
      rw [he] at he2
      obtain ⟨rfl, rfl, rfl, rfl, rfl, rfl⟩ : l = l2 ∧ p = p2 ∧ t = t2 ∧ np = np2 ∧ ns = ns2 ∧ dl = dl2 := by simpa using he2
      have heq : Hid (∀ w, (Op.equalIn 10000 81 (.agg (O.arr ⟨l, p, t, np, ns, dl⟩)) (.agg (O.arr ⟨l, p, t, np, ns, dl⟩))).run Try.prog w = .ok true w) := fun w => by rw [equal81]; simp
      clear he he2
      go_upto_region 6 with fail
      refine wp_region_held_drew (S := fun w' => Row w' w.heap.size #[.int .u64 lsn, .slice (some a) n cap] 44 ∧ Row w' (w.heap.size + 1) #[.int .u64 lsn, .slice (some a2) n cap2] 44 ∧ Below w.heap.size w w') (by kernel_rfl) ⟨r0, r1, rb.drew⟩ fun hS => ?_
      refine wpAnyH_take (i := 0) (v := .pointer (some ⟨w.heap.size, 1, none⟩)) rfl (by kernel_rfl) (by kernel_rfl) (by kernel_rfl) (fun _ _ _ h => h) (Or.inl ⟨by rfl, fun w _ => by go_simp⟩) hS ?_
      try simp only [Act.put, List.getElem_toArray, List.getElem_cons_zero, List.getElem_cons_succ, List.setIfInBounds_toArray, List.set_cons_zero, List.set_cons_succ]
      refine wpAnyH_take (i := 1) (v := .slice (some a) n cap) rfl (by kernel_rfl) (by kernel_rfl) (by kernel_rfl) (fun _ _ _ h => h) (Or.inl ⟨by rfl, fun w h => by have c := row_at h.1 1 _ rfl; go_simp⟩) hS ?_
      try simp only [Act.put, List.getElem_toArray, List.getElem_cons_zero, List.getElem_cons_succ, List.setIfInBounds_toArray, List.set_cons_zero, List.set_cons_succ]
      refine wpAnyH_take (i := 2) (v := .int .i64 k) rfl (by kernel_rfl) (by kernel_rfl) (by kernel_rfl) (fun _ _ _ h => h) (Or.inl ⟨by rfl, fun w _ => by rfl⟩) hS ?_
      try simp only [Act.put, List.getElem_toArray, List.getElem_cons_zero, List.getElem_cons_succ, List.setIfInBounds_toArray, List.set_cons_zero, List.set_cons_succ]
      refine wpAnyH_take (i := 3) (v := .pointer (some (a.add (k * 6)))) rfl (by kernel_rfl) (by kernel_rfl) (by kernel_rfl) (fun _ _ _ h => h) (Or.inl ⟨by rfl, fun w _ => by go_simp⟩) hS ?_
      try simp only [Act.put, List.getElem_toArray, List.getElem_cons_zero, List.getElem_cons_succ, List.setIfInBounds_toArray, List.set_cons_zero, List.set_cons_succ]
      refine wpAnyH_take (i := 4) (v := .agg (O.arr ⟨l, p, t, np, ns, dl⟩)) rfl (by kernel_rfl) (by kernel_rfl) (by kernel_rfl) (fun _ _ _ h => h) (yields_any (by rfl) 81 (.tmp 29) rfl (a.add (k * 6)) rfl (O.cells ⟨l, p, t, np, ns, dl⟩) (fun w h => fun j u hj => cell_keep (hc1 j u hj) h.2.2) Try.underlying81 rfl size81) hS ?_
      try simp only [Act.put, List.getElem_toArray, List.getElem_cons_zero, List.getElem_cons_succ, List.setIfInBounds_toArray, List.set_cons_zero, List.set_cons_succ]
      refine wpAnyH_take (i := 5) (v := .pointer (some ⟨w.heap.size + 1, 1, none⟩)) rfl (by kernel_rfl) (by kernel_rfl) (by kernel_rfl) (fun _ _ _ h => h) (Or.inl ⟨by rfl, fun w _ => by go_simp⟩) hS ?_
      try simp only [Act.put, List.getElem_toArray, List.getElem_cons_zero, List.getElem_cons_succ, List.setIfInBounds_toArray, List.set_cons_zero, List.set_cons_succ]
      refine wpAnyH_take (i := 6) (v := .slice (some a2) n cap2) rfl (by kernel_rfl) (by kernel_rfl) (by kernel_rfl) (fun _ _ _ h => h) (Or.inl ⟨by rfl, fun w h => by have c := row_at h.2.1 1 _ rfl; go_simp⟩) hS ?_
      try simp only [Act.put, List.getElem_toArray, List.getElem_cons_zero, List.getElem_cons_succ, List.setIfInBounds_toArray, List.set_cons_zero, List.set_cons_succ]
      refine wpAnyH_take (i := 7) (v := .int .i64 k) rfl (by kernel_rfl) (by kernel_rfl) (by kernel_rfl) (fun _ _ _ h => h) (Or.inl ⟨by rfl, fun w _ => by rfl⟩) hS ?_
      try simp only [Act.put, List.getElem_toArray, List.getElem_cons_zero, List.getElem_cons_succ, List.setIfInBounds_toArray, List.set_cons_zero, List.set_cons_succ]
      refine wpAnyH_take (i := 8) (v := .pointer (some (a2.add (k * 6)))) rfl (by kernel_rfl) (by kernel_rfl) (by kernel_rfl) (fun _ _ _ h => h) (Or.inl ⟨by rfl, fun w _ => by go_simp⟩) hS ?_
      try simp only [Act.put, List.getElem_toArray, List.getElem_cons_zero, List.getElem_cons_succ, List.setIfInBounds_toArray, List.set_cons_zero, List.set_cons_succ]
      refine wpAnyH_take (i := 9) (v := .agg (O.arr ⟨l, p, t, np, ns, dl⟩)) rfl (by kernel_rfl) (by kernel_rfl) (by kernel_rfl) (fun _ _ _ h => h) (yields_any (by rfl) 81 (.tmp 34) rfl (a2.add (k * 6)) rfl (O.cells ⟨l, p, t, np, ns, dl⟩) (fun w h => fun j u hj => cell_keep (hc2 j u hj) h.2.2) Try.underlying81 rfl size81) hS ?_
      try simp only [Act.put, List.getElem_toArray, List.getElem_cons_zero, List.getElem_cons_succ, List.setIfInBounds_toArray, List.set_cons_zero, List.set_cons_succ]
      refine wpAnyH_take (i := 10) (v := .bool false) rfl (by kernel_rfl) (by kernel_rfl) (by kernel_rfl) (fun _ _ _ h => h) (yields_neq (by rfl) 81 81 (.tmp 30) (.tmp 35) rfl (O.arr ⟨l, p, t, np, ns, dl⟩) (O.arr ⟨l, p, t, np, ns, dl⟩) rfl rfl Try.eqGuardType81 true heq.out) hS ?_
      try simp only [Act.put, List.getElem_toArray, List.getElem_cons_zero, List.getElem_cons_succ, List.setIfInBounds_toArray, List.set_cons_zero, List.set_cons_succ]
      refine wpAnyH_done (by kernel_rfl) ?_ _
      go_wp2
      go_roundw
      case rel => exact ⟨k + 1, by go_num, by omega, hS.2.2, hS.1, hS.2.1⟩
      case measure => simp [intOf]; omega
    · obtain rfl : k = n := by omega
      have hkn' : ¬ (k : Int) < (k : Int) := by omega
      go_wp2
      go_ret
      exact ⟨rfl, rb⟩
/-- A copy by append to a new one. -/
theorem run_big (w : World) (ty : TypeId) (v : Value) (os : List O) (h : Olds w v os) (hn : os.length * 32 ≤ 140737488355328) :
    ∃ v' w', (Builtin.append_ #[42, 42] ty #[.slice (some ⟨w.heap.size, 0, none⟩) 0 0, v]).run Try.prog (w.alloc (.cells #[] 81)) = .ok v' w' ∧ Own w' w.heap.size v' os ∧ Below w.heap.size w w' := by
  obtain ⟨i, hi, hz, hs, hb⟩ := info_parts info81
  have hown : (w.alloc (.cells #[] 81)).ownsRow w.heap.size 81 6 (.slice (some ⟨w.heap.size, 0, none⟩) 0 0) 0 [] := World.ownsRow_made w #[] 0 (Nat.le_refl _) (Nat.zero_le _) rfl
  have b0 : Below w.heap.size w (w.alloc (.cells #[] 81)) := (Below.refl _ _).alloc (Nat.le_refl _) _
  rcases h with ⟨rfl, rfl⟩ | ⟨a, cap, rfl, hc⟩
  · exact ⟨_, _, run_append_owned_none (P := Try.prog) (w := w.alloc (.cells #[] 81)) w.heap.size 42 ty 81 i 6 Try.underlying42 hi _ 0 [] hown, hown, b0⟩
  · obtain ⟨v', w', hr, h2, h3, h4, h5⟩ := run_append_own_at (P := Try.prog) (w.alloc (.cells #[] 81)) w.heap.size 42 ty 81 i _ 6 32 Try.underlying42 hi hz hs hb rfl (by decide) _ 0 [] hown a os.length cap (flat os) (flat_length os) (fun j u hj => cell_keep (hc j u hj) b0) (flat_one os) (by unfold maxLen; omega) (by simpa using hn) (by simp)
    refine ⟨v', w', hr, ?_, b0.grown h3 (by simp) (fun k hk => ?_)⟩
    · unfold Own; simpa using h2
    · simp [Value.ownBlock] at hk
      omega
/-- .. the same behind a draw. -/
theorem run_big' (w : World) (ty : TypeId) (v : Value) (os : List O) (h : Olds w v os) (hn : os.length * 32 ≤ 140737488355328) :
    ∃ v' w', (Builtin.append_ #[42, 42] ty #[.slice (some ⟨w.heap.size, 0, none⟩) 0 0, v]).run Try.prog (w.alloc (.cells #[] 81)).drew = .ok v' w' ∧ Own w' w.heap.size v' os ∧ Below w.heap.size w w' := by
  obtain ⟨i, hi, hz, hs, hb⟩ := info_parts info81
  have hown : (w.alloc (.cells #[] 81)).drew.ownsRow w.heap.size 81 6 (.slice (some ⟨w.heap.size, 0, none⟩) 0 0) 0 [] := World.ownsRow_made w #[] 0 (Nat.le_refl _) (Nat.zero_le _) rfl
  have b0 : Below w.heap.size w (w.alloc (.cells #[] 81)).drew := ((Below.refl _ _).alloc (Nat.le_refl _) _).drew
  rcases h with ⟨rfl, rfl⟩ | ⟨a, cap, rfl, hc⟩
  · exact ⟨_, _, run_append_owned_none (P := Try.prog) (w := (w.alloc (.cells #[] 81)).drew) w.heap.size 42 ty 81 i 6 Try.underlying42 hi _ 0 [] hown, hown, b0⟩
  · obtain ⟨v', w', hr, h2, h3, h4, h5⟩ := run_append_own_at (P := Try.prog) (w.alloc (.cells #[] 81)).drew w.heap.size 42 ty 81 i _ 6 32 Try.underlying42 hi hz hs hb rfl (by decide) _ 0 [] hown a os.length cap (flat os) (flat_length os) (fun j u hj => cell_keep (hc j u hj) b0) (flat_one os) (by unfold maxLen; omega) (by simpa using hn) (by simp)
    refine ⟨v', w', hr, ?_, b0.grown h3 (by simp) (fun k hk => ?_)⟩
    · unfold Own; simpa using h2
    · simp [Value.ownBlock] at hk
      omega
set_option maxHeartbeats 1000000 in
theorem kept_big (lsn : Int) (v : Value) (os : List O) (w : World) (h : Olds w v os) (hn : os.length * 32 ≤ 140737488355328) : Calls Try.prog 17 #[.agg #[.int .u64 lsn, v]] w fun e w' => CopU w lsn os e w' := by
  obtain ⟨oa, cap, rfl, _⟩ := h.open
  obtain ⟨n, HN⟩ : ∃ n, Hid (os.length = n) := ⟨_, rfl⟩
  rw [HN.out] at h ⊢
  have r0 : Row ((w.alloc (.cells #[.int .u64 lsn, .slice oa n cap] 44)).alloc (.cells #[.int .u64 0, .slice none 0 0] 44)) w.heap.size #[.int .u64 lsn, .slice oa n cap] 44 := (Row.new _ _ _).alloc _
  have r1 : Row ((w.alloc (.cells #[.int .u64 lsn, .slice oa n cap] 44)).alloc (.cells #[.int .u64 0, .slice none 0 0] 44)) (w.heap.size + 1) #[.int .u64 0, .slice none 0 0] 44 := by have := Row.new (w.alloc (.cells #[.int .u64 lsn, .slice oa n cap] 44)) #[.int .u64 0, .slice none 0 0] 44; simpa using this
  have ab : Below w.heap.size w ((w.alloc (.cells #[.int .u64 lsn, .slice oa n cap] 44)).alloc (.cells #[.int .u64 0, .slice none 0 0] 44)) := ((Below.refl _ _).alloc (Nat.le_refl _) _).alloc (by simp) _
  have hz := zero44
  have hsz : Hid (((w.alloc (.cells #[.int .u64 lsn, .slice oa n cap] 44)).alloc (.cells #[.int .u64 0, .slice none 0 0] 44)).heap.size = w.heap.size + 2) := by simp [Hid]
  go_enter Try.func17, Try.ntmps17
  go_upto_region 1 with fail
  generalize (w.alloc (.cells #[.int .u64 lsn, .slice oa n cap] 44)).alloc (.cells #[.int .u64 0, .slice none 0 0] 44) = w1 at r0 r1 ab hsz ⊢
  refine wp_region_held_drew (S := fun w' => Row w' w.heap.size #[.int .u64 lsn, .slice oa n cap] 44) (by kernel_rfl) r0 fun hS => ?_
  refine wpAnyH_take (i := 0) (v := .pointer (some ⟨w.heap.size, 0, none⟩)) rfl (by kernel_rfl) (by kernel_rfl) (by kernel_rfl) (fun _ _ _ h => h) (Or.inl ⟨by rfl, fun w _ => by go_simp⟩) hS ?_
  try simp only [Act.put, List.getElem_toArray, List.getElem_cons_zero, List.getElem_cons_succ, List.setIfInBounds_toArray, List.set_cons_zero, List.set_cons_succ]
  refine wpAnyH_take (i := 1) (v := .int .u64 lsn) rfl (by kernel_rfl) (by kernel_rfl) (by kernel_rfl) (fun _ _ _ h => h) (Or.inl ⟨by rfl, fun w h => by have c := row_at h 0 _ rfl; go_simp⟩) hS ?_
  try simp only [Act.put, List.getElem_toArray, List.getElem_cons_zero, List.getElem_cons_succ, List.setIfInBounds_toArray, List.set_cons_zero, List.set_cons_succ]
  refine wpAnyH_take (i := 3) (v := .pointer (some ⟨w.heap.size, 1, none⟩)) rfl (by kernel_rfl) (by kernel_rfl) (by kernel_rfl) (fun _ _ _ h => h) (Or.inl ⟨by rfl, fun w _ => by go_simp⟩) hS ?_
  try simp only [Act.put, List.getElem_toArray, List.getElem_cons_zero, List.getElem_cons_succ, List.setIfInBounds_toArray, List.set_cons_zero, List.set_cons_succ]
  refine wpAnyH_take (i := 4) (v := .slice oa n cap) rfl (by kernel_rfl) (by kernel_rfl) (by kernel_rfl) (fun _ _ _ h => h) (Or.inl ⟨by rfl, fun w h => by have c := row_at h 1 _ rfl; go_simp⟩) hS ?_
  try simp only [Act.put, List.getElem_toArray, List.getElem_cons_zero, List.getElem_cons_succ, List.setIfInBounds_toArray, List.set_cons_zero, List.set_cons_succ]
  refine wpAnyH_ready (rs := [2]) (by kernel_rfl) (by simp) ?_
  refine AllReadyH.cons rfl (fun K hK => ?_) AllReadyH.nil
  go_simp
  refine hK.out _ _ (hS.alloc _) fun hS => ?_
  try simp only [Act.put, List.getElem_toArray, List.getElem_cons_zero, List.getElem_cons_succ, List.setIfInBounds_toArray, List.set_cons_zero, List.set_cons_succ]
  have hr := fun ty => run_big' w1 ty (.slice oa n cap) os (h.keep ab) hn
  refine wpAnyH_ready (rs := [5]) (by kernel_rfl) (by simp) ?_
  refine AllReadyH.cons rfl (fun K hK => step_of rfl (wp_copy (.tmp 5) (.tmp 7) 42 rfl _ _ rfl rfl (T := fun v' w' => Own w' w1.heap.size v' os ∧ Below w1.heap.size w1 w') (fun ty => hr ty) ?_)) AllReadyH.nil
  rintro v' wc ⟨hO, hcb⟩
  refine hK.out _ _ (r0.below hcb r0.lt) fun hS => ?_
  try simp only [Act.put, List.getElem_toArray, List.getElem_cons_zero, List.getElem_cons_succ, List.setIfInBounds_toArray, List.set_cons_zero, List.set_cons_succ]
  have r2 := r1.below hcb r1.lt
  obtain ⟨oa', cap', rfl⟩ := hO.form
  have bc : Below w.heap.size w wc := ab.trans (hcb.mono (by simp [hsz.out]))
  have hO2 : Own wc (w.heap.size + 2) (.slice oa' os.length cap') os := hO.base (by simp [hsz.out])
  refine wpAnyH_take (i := 6) (v := .agg #[.int .u64 lsn, .slice oa' os.length cap']) rfl (by kernel_rfl) (by kernel_rfl) (by kernel_rfl) (fun _ _ _ h => h) (Or.inl ⟨by rfl, fun w _ => by go_simp⟩) hS ?_
  try simp only [Act.put, List.getElem_toArray, List.getElem_cons_zero, List.getElem_cons_succ, List.setIfInBounds_toArray, List.set_cons_zero, List.set_cons_succ]
  refine wpAnyH_ready (rs := [7]) (by kernel_rfl) (by simp) ?_
  refine AllReadyH.cons rfl (fun K hK => step_cells rfl 44 (.tmp 2) (.tmp 9) rfl (w.heap.size + 1) #[.int .u64 lsn, .slice oa' os.length cap'] rfl rfl 44 _ r2 2 size44 rfl rfl (by simp [Value.oneCell']) (hK.out _ _ (hS.other (by omega) _) fun hS => ?_)) AllReadyH.nil
  try simp only [Act.put, List.getElem_toArray, List.getElem_cons_zero, List.getElem_cons_succ, List.setIfInBounds_toArray, List.set_cons_zero, List.set_cons_succ]
  refine wpAnyH_done (by kernel_rfl) ?_ _
  go_wp2
  refine bodyPost_ret (v := .agg #[.int .u64 lsn, .slice oa' os.length cap']) ?_ rfl ⟨_, rfl, (hO2.setRow (w.heap.size + 1) (by omega) _).base (by omega), below_setRow bc (by omega) _⟩
  exact ret_cell (fn := Try.f17) rfl _ _ (w.heap.size + 1) 44 #[.int .u64 lsn, .slice oa' os.length cap'] _ rfl (r2.set _) Try.underlying44 rfl size44

theorem cells81 : Try.prog.cellsOf 81 = 6 := by kernel_rfl
theorem cells44 : Try.prog.cellsOf 44 = 2 := by kernel_rfl
theorem cells42 : Try.prog.cellsOf 42 = 1 := by kernel_rfl
theorem cells9 : Try.prog.cellsOf 9 = 1 := by kernel_rfl
theorem cells4 : Try.prog.cellsOf 4 = 1 := by kernel_rfl
theorem bytes81 : Try.prog.bytesOf 81 = 32 := by kernel_rfl
/-- An undo page that came in. -/
structure Und (w : World) (lsn : Int) (c : Value) (os : List O) : Prop where
  olds : Olds w c os
  fits : ∀ o ∈ os, o.Fits
  lsn : 0 ≤ lsn ∧ lsn ≤ 18446744073709551615
  len : os.length * 32 ≤ 140737488355328
section
variable {H : Type} {enc : TypeId × Value → H}
theorem open_ref {w : World} {fuel : Nat} {c0 c1 : Value} {x : DataW H × List MemPlace} (h : DataW.trod enc Try.prog w 0 (fun _ => true) true fuel 26 [c0, c1] = some x) :
    ∃ a b : Int, c0 = .int .u16 a ∧ c1 = .int .u8 b ∧ (0 ≤ a ∧ a ≤ 65535) ∧ (0 ≤ b ∧ b ≤ 255) := by
  cases fuel with
  | zero => simp [DataW.trod] at h
  | succ n =>
    unfold DataW.trod at h
    rw [Try.underlying26] at h
    simp [List.mapM_cons, cells26, cells22, cells5] at h
    cases t0 : DataW.trod enc Try.prog w 0 (fun _ => true) true n 22 [c0] with
    | none => simp [t0] at h
    | some x0 =>
    cases t1 : DataW.trod enc Try.prog w 0 (fun _ => true) true n 5 [c1] with
    | none => simp [t0, t1] at h
    | some x1 =>
    obtain ⟨k0, e0, _, u0⟩ := DataW.trod_int Try.underlying22 t0
    obtain ⟨k1, e1, _, u1⟩ := DataW.trod_int Try.underlying5 t1
    simp at e0 e1
    exact ⟨k0, k1, e0, e1, bounds_u16 u0, bounds_u8 u1⟩
theorem open_old {w : World} {fuel : Nat} {cs : List Value} {x : DataW H × List MemPlace} (h : DataW.trod enc Try.prog w 0 (fun _ => true) true fuel 81 cs = some x) :
    ∃ o : O, cs = o.cells ∧ o.Fits := by
  cases fuel with
  | zero => simp [DataW.trod] at h
  | succ n =>
    unfold DataW.trod at h
    rw [Try.underlying81] at h
    simp only [cells81] at h
    by_cases hl : cs.length = 6
    · match cs, hl with
      | [c0, c1, c2, c3, c4, c5], _ =>
        simp [List.mapM_cons, cells4, cells22, cells24, cells26, cells9] at h
        cases t0 : DataW.trod enc Try.prog w 0 (fun _ => true) true n 4 [c0] with
        | none => simp [t0] at h
        | some x0 =>
        cases t1 : DataW.trod enc Try.prog w 0 (fun _ => true) true n 22 [c1] with
        | none => simp [t0, t1] at h
        | some x1 =>
        cases t2 : DataW.trod enc Try.prog w 0 (fun _ => true) true n 24 [c2] with
        | none => simp [t0, t1, t2] at h
        | some x2 =>
        cases t3 : DataW.trod enc Try.prog w 0 (fun _ => true) true n 26 [c3, c4] with
        | none => simp [t0, t1, t2, t3] at h
        | some x3 =>
        cases t4 : DataW.trod enc Try.prog w 0 (fun _ => true) true n 9 [c5] with
        | none => simp [t0, t1, t2, t3, t4] at h
        | some x4 =>
        obtain ⟨k0, e0, _⟩ := DataW.trod_bool Try.underlying4 t0
        obtain ⟨k1, e1, _, u1⟩ := DataW.trod_int Try.underlying22 t1
        obtain ⟨k2, e2, _, u2⟩ := DataW.trod_int Try.underlying24 t2
        obtain ⟨k3, k4, e3, e4, u3, u4⟩ := open_ref t3
        obtain ⟨k5, e5, _⟩ := DataW.trod_string Try.underlying9 t4
        simp at e0 e1 e2 e5
        exact ⟨⟨k0, k1, k2, k3, k4, k5⟩, by simp [O.cells, e0, e1, e2, e3, e4, e5], ⟨bounds_u16 u1, bounds_u32 u2, u3, u4⟩⟩
    · simp [hl] at h
theorem open_oldv {w : World} {base : Nat} {v : Value} {d : DataW H} {p : List MemPlace} (hv : Value.okWide Try.prog w .any base 81 v) (h : DataW.Trod enc Try.prog w 0 (fun _ => true) true 81 v d p) (hs : (d.weights Try.prog 81).all (· ≤ reachBytes) = true) :
    ∃ o : O, v = .agg o.arr ∧ o.Fits := by
  obtain ⟨cs, rfl, hsz⟩ := okWide_struct Try.underlying81 hv
  obtain ⟨fuel, hf⟩ := h
  obtain ⟨o, hc, hft⟩ := open_old hf
  refine ⟨o, ?_, hft⟩
  have hc' : cs.toList = o.cells := hc
  show Value.agg cs = Value.agg o.cells.toArray
  rw [← hc']
theorem open_olds {w : World} {fuel : Nat} {c : Value} {x : DataW H × List MemPlace} (hf : DataW.trod enc Try.prog w 0 (fun _ => true) true fuel 42 [c] = some x) :
    ∃ os : List O, Olds w c os ∧ (∀ o ∈ os, o.Fits) ∧ ((x.1.weights Try.prog 42).all (· ≤ reachBytes) = true → os.length * 32 ≤ 140737488355328) := by
  rcases open_slice Try.underlying42 hf with ⟨q, _⟩ | ⟨a, len, cap, m, n, D, Pl, q, _, hle, _, hm, hx, hel⟩
  · exact ⟨[], Or.inl ⟨by simpa using q, rfl⟩, by simp, by simp⟩
  · have q' : c = .slice (some a) len cap := by simpa using q
    subst q'
    simp only [if_true] at hm
    have hc : ∀ i, ∃ o : O, o.Fits ∧ (i < len → ∀ j u, o.cells[j]? = some u → w.cell? ((a.add (i * 6)).add j) = some u) := fun i => by
      by_cases hi : i < len
      · obtain ⟨cs', h1, h2⟩ := hel i (by omega)
        rw [cells81] at h1
        obtain ⟨o, rfl, hft⟩ := open_old h2
        obtain ⟨_, hl6, hcell⟩ := World.cells?_some h1
        refine ⟨o, hft, fun _ j u hj => ?_⟩
        have hj6 : j < 6 := by
          have := (List.getElem?_eq_some_iff.1 hj).1
          simpa [O.cells] using this
        rw [hcell j hj6]; exact hj
      · exact ⟨O.zero, O.zero_fits, fun q => absurd q hi⟩
    obtain ⟨f, hf'⟩ := Classical.axiomOfChoice hc
    refine ⟨(List.range len).map f, Or.inr ⟨a, cap, by simp, fun j u hj => ?_⟩, fun o ho => ?_, fun hs => ?_⟩
    rotate_left
    · obtain ⟨i, _, rfl⟩ := List.mem_map.1 ho
      exact (hf' i).1
    · rw [hx] at hs
      simp [DataW.weights, Try.underlying42, bytes81] at hs
      have := hs.1
      unfold reachBytes at this
      simp
      omega
    rw [flat_get] at hj
    cases hq : ((List.range len).map f)[j / 6]? with
    | none => rw [hq] at hj; simp at hj
    | some o =>
      rw [hq] at hj
      have hlt : j / 6 < len := by have := (List.getElem?_eq_some_iff.1 hq).1; simpa using this
      have ho : f (j / 6) = o := by
        rw [List.getElem?_map, List.getElem?_range hlt] at hq
        simpa using hq
      have := (hf' (j / 6)).2 hlt (j % 6) u (by rw [ho]; exact hj)
      rw [add_add, show j / 6 * 6 + j % 6 = j by omega] at this
      exact this
theorem open_undov {w : World} {base : Nat} {v : Value} {d : DataW H} {p : List MemPlace} (hv : Value.okWide Try.prog w .any base 44 v) (h : DataW.Trod enc Try.prog w 0 (fun _ => true) true 44 v d p) (hs : (d.weights Try.prog 44).all (· ≤ reachBytes) = true) :
    ∃ (lsn : Int) (c : Value) (os : List O), v = .agg #[.int .u64 lsn, c] ∧ Und w lsn c os := by
  obtain ⟨cs, rfl, hsz⟩ := okWide_struct Try.underlying44 hv
  obtain ⟨fuel, hf⟩ := h
  have hc : ∃ (lsn : Int) (c : Value) (os : List O), cs.toList = [.int .u64 lsn, c] ∧ Und w lsn c os := by
    have hf' : DataW.trod enc Try.prog w 0 (fun _ => true) true fuel 44 cs.toList = some (d, p) := hf
    generalize cs.toList = l at hf'
    cases fuel with
    | zero => simp [DataW.trod] at hf'
    | succ n =>
      unfold DataW.trod at hf'
      rw [Try.underlying44] at hf'
      simp only [cells44] at hf'
      by_cases hl : l.length = 2
      · match l, hl with
        | [c0, c1], _ =>
          simp [List.mapM_cons, cells23, cells42] at hf'
          cases t0 : DataW.trod enc Try.prog w 0 (fun _ => true) true n 23 [c0] with
          | none => simp [t0] at hf'
          | some x0 =>
          cases t1 : DataW.trod enc Try.prog w 0 (fun _ => true) true n 42 [c1] with
          | none => simp [t0, t1] at hf'
          | some x1 =>
          obtain ⟨k0, e0, _, u0⟩ := DataW.trod_int Try.underlying23 t0
          simp at e0
          obtain ⟨os, ho, hft, hsz⟩ := open_olds t1
          simp [t0, t1] at hf'
          obtain ⟨q1, q2⟩ := hf'
          subst q1
          simp [DataW.weights, Try.underlying44, DataW.weightsEach] at hs
          exact ⟨k0, c1, os, by rw [e0], ho, hft, bounds_u64 u0, hsz (List.all_eq_true.2 fun m hm => decide_eq_true (hs.2 m hm))⟩
      · simp [hl] at hf'
  obtain ⟨lsn, c, os, h1, h2⟩ := hc
  refine ⟨lsn, c, os, ?_, h2⟩
  show Value.agg cs = Value.agg [Value.int .u64 lsn, c].toArray
  rw [← h1]
end
end Go.Proofs.Ytomlbkdagaldoaa
