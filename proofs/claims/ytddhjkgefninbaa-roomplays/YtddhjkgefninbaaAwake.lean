/-
  Proved here: two pages that are alike are told so (the document's SameUndo); one record is added to a page of none (the statements' fixed run).
-/
import Derived.Test.YtddhjkgefninbaaAdd
namespace Go.Proofs.Ytddhjkgefninbaa
open Go.ChangeShapes Go.WideShapes Go.ChangeAt Go.RowKit
set_option linter.unusedVariables false
set_option linter.unusedSimpArgs false
set_option maxRecDepth 20000

theorem yields_neq {P : Program} {ops : Array Oper} {S : World → Prop} {o : Oper} {a : Act} (hw : Region.wanted o (yielded ops a.tmps) = true) (ty ty' : TypeId) (x y : Operand) (ho : o.op = .binOp .neq ty x y ty')
    (xs ys : Array Value) (hx : a.eval x = .agg xs) (hy : a.eval y = .agg ys) (hm : P.eqGuardType P.depth ty = false) (b : Bool) (hr : ∀ w, (Op.equalIn 10000 ty (.agg xs) (.agg ys)).run P w = .ok b w) : YieldsIf P ops S o (.bool (!b)) a := by
  refine Or.inl ⟨hw, fun w hS => ?_⟩
  unfold execOp
  simp only [ho, hx, hy, Sem.run_bind, run_eqGuard_agg w .neq ty x y xs ys hm, Result.andThen_ok, run_neq_struct, hr, Sem.run_pure]
theorem yields_any {P : Program} {ops : Array Oper} {S : World → Prop} {op : Oper} {a : Act} (hw : Region.wanted op (yielded ops a.tmps) = true) (ty : TypeId) (x : Operand) (ho : op.op = .load ty x)
    (p : Addr) (hx : a.eval x = .pointer (some p)) (cs : List Value) {d : TypeDesc} (hc : ∀ w, S w → ∀ j v, cs[j]? = some v → w.cell? (p.add j) = some v)
    (hu : P.underlying ty = some d) (hd : d.isRow = true) (hi : (P.info? ty).map (·.size) = some cs.length) : YieldsIf P ops S op (.agg cs.toArray) a := by
  refine Or.inl ⟨hw, fun w hS => ?_⟩
  have hl : (loadCells p cs.length).run P w = .ok cs.toArray w := run_loadCells_list (P := P) w p cs (hc w hS)
  have hrun : (loadVar ty p).run P w = .ok (.agg cs.toArray) w := by
    cases hq : P.info? ty with
    | none => simp [hq] at hi
    | some i =>
      have hs : i.size = cs.length := by simpa [hq] using hi
      have hagg : (isAgg ty).run P w = .ok true w := by
        unfold isAgg
        rw [Sem.run_bind, run_underlying hu w]
        cases d <;> simp_all
      simp [loadVar, Sem.run_bind, hagg, sizeOf, typeInfo, hq, hs, hl]
  unfold execOp
  simp only [ho, hx, Instr.loadAt, Instr.sureAddr, Sem.run_bind, Sem.run_pure, Result.andThen_ok, hrun]

set_option maxHeartbeats 2000000 in
theorem same_any (lsn : Int) (v v2 : Value) (os : List O) (w : World) (ho : Olds w v os) (ho2 : Olds w v2 os) (hn : os.length ≤ 1000000000) :
    Calls Try.prog 11 #[.agg #[.int .u64 lsn, v], .agg #[.int .u64 lsn, v2]] w fun e w' => e = .returned (.bool true) ∧ Below w.heap.size w w' := by
  obtain ⟨oa, cap, rfl, hcs⟩ := ho.hold
  obtain ⟨oa2, cap2, rfl, hcs2⟩ := ho2.hold
  have HCS : Hid _ := hcs
  have HCS2 : Hid _ := hcs2
  clear hcs hcs2 ho ho2
  obtain ⟨n, HN⟩ : ∃ n, Hid (os.length = n) := ⟨_, rfl⟩
  rw [HN.out] at HCS HCS2 hn ⊢
  have r0 : Row ((w.alloc (.cells #[.int .u64 lsn, .slice oa n cap] 33)).alloc (.cells #[.int .u64 lsn, .slice oa2 n cap2] 33)) w.heap.size #[.int .u64 lsn, .slice oa n cap] 33 := (Row.new _ _ _).alloc _
  have r1 : Row ((w.alloc (.cells #[.int .u64 lsn, .slice oa n cap] 33)).alloc (.cells #[.int .u64 lsn, .slice oa2 n cap2] 33)) (w.heap.size + 1) #[.int .u64 lsn, .slice oa2 n cap2] 33 := by have := Row.new (w.alloc (.cells #[.int .u64 lsn, .slice oa n cap] 33)) #[.int .u64 lsn, .slice oa2 n cap2] 33; simpa using this
  have ab : Below w.heap.size w ((w.alloc (.cells #[.int .u64 lsn, .slice oa n cap] 33)).alloc (.cells #[.int .u64 lsn, .slice oa2 n cap2] 33)) := ((Below.refl _ _).alloc (Nat.le_refl _) _).alloc (by simp) _
  go_enter Try.func11, Try.ntmps11
  go_wp2
  go_loopw [23] (fun d wr => ∃ (k : Nat), d = .int .i64 k ∧ k ≤ n ∧ Below w.heap.size w wr ∧ Row wr w.heap.size #[.int .u64 lsn, .slice oa n cap] 33 ∧ Row wr (w.heap.size + 1) #[.int .u64 lsn, .slice oa2 n cap2] 33) (fun d _ => n - (intOf d).toNat)
  case atStart => exact ⟨0, rfl, by omega, ab, r0, r1⟩
  case round =>
    clear ab r0 r1
    obtain ⟨k, rfl, hk, rb, r0, r1⟩ := hrel
    by_cases hkn : k < n
    · have hkn' : (k : Int) < (n : Int) := by omega
      obtain ⟨a, l, p, t, np, ns, dl, rfl, he, hc1⟩ := HCS.out k hkn
      obtain ⟨a2, l2, p2, t2, np2, ns2, dl2, rfl, he2, hc2⟩ := HCS2.out k hkn
      rw [he] at he2
      obtain ⟨rfl, rfl, rfl, rfl, rfl, rfl⟩ : l = l2 ∧ p = p2 ∧ t = t2 ∧ np = np2 ∧ ns = ns2 ∧ dl = dl2 := by simpa using he2
      have heq : Hid (∀ w, (Op.equalIn 10000 50 (.agg (O.arr ⟨l, p, t, np, ns, dl⟩)) (.agg (O.arr ⟨l, p, t, np, ns, dl⟩))).run Try.prog w = .ok true w) := fun w => by rw [equal50]; simp
      clear he he2
      go_upto_region 6 with fail
      refine wp_region_held_drew (S := fun w' => Row w' w.heap.size #[.int .u64 lsn, .slice (some a) n cap] 33 ∧ Row w' (w.heap.size + 1) #[.int .u64 lsn, .slice (some a2) n cap2] 33 ∧ Below w.heap.size w w') (by kernel_rfl) ⟨r0, r1, rb.drew⟩ fun hS => ?_
      refine wpAnyH_take (i := 0) (v := .pointer (some ⟨w.heap.size, 1, none⟩)) rfl (by kernel_rfl) (by kernel_rfl) (by kernel_rfl) (fun _ _ _ h => h) (Or.inl ⟨by rfl, fun w _ => by go_simp⟩) hS ?_
      try simp only [Act.put, List.getElem_toArray, List.getElem_cons_zero, List.getElem_cons_succ, List.setIfInBounds_toArray, List.set_cons_zero, List.set_cons_succ]
      refine wpAnyH_take (i := 1) (v := .slice (some a) n cap) rfl (by kernel_rfl) (by kernel_rfl) (by kernel_rfl) (fun _ _ _ h => h) (Or.inl ⟨by rfl, fun w h => by have c := row_at h.1 1 _ rfl; go_simp⟩) hS ?_
      try simp only [Act.put, List.getElem_toArray, List.getElem_cons_zero, List.getElem_cons_succ, List.setIfInBounds_toArray, List.set_cons_zero, List.set_cons_succ]
      refine wpAnyH_take (i := 2) (v := .int .i64 k) rfl (by kernel_rfl) (by kernel_rfl) (by kernel_rfl) (fun _ _ _ h => h) (Or.inl ⟨by rfl, fun w _ => by rfl⟩) hS ?_
      try simp only [Act.put, List.getElem_toArray, List.getElem_cons_zero, List.getElem_cons_succ, List.setIfInBounds_toArray, List.set_cons_zero, List.set_cons_succ]
      refine wpAnyH_take (i := 3) (v := .pointer (some (a.add (k * 6)))) rfl (by kernel_rfl) (by kernel_rfl) (by kernel_rfl) (fun _ _ _ h => h) (Or.inl ⟨by rfl, fun w _ => by go_simp⟩) hS ?_
      try simp only [Act.put, List.getElem_toArray, List.getElem_cons_zero, List.getElem_cons_succ, List.setIfInBounds_toArray, List.set_cons_zero, List.set_cons_succ]
      refine wpAnyH_take (i := 4) (v := .agg (O.arr ⟨l, p, t, np, ns, dl⟩)) rfl (by kernel_rfl) (by kernel_rfl) (by kernel_rfl) (fun _ _ _ h => h) (yields_any (by rfl) 50 (.tmp 29) rfl (a.add (k * 6)) rfl (O.cells ⟨l, p, t, np, ns, dl⟩) (fun w h => fun j u hj => cell_keep (hc1 j u hj) h.2.2) Try.underlying50 rfl size50) hS ?_
      try simp only [Act.put, List.getElem_toArray, List.getElem_cons_zero, List.getElem_cons_succ, List.setIfInBounds_toArray, List.set_cons_zero, List.set_cons_succ]
      refine wpAnyH_take (i := 5) (v := .pointer (some ⟨w.heap.size + 1, 1, none⟩)) rfl (by kernel_rfl) (by kernel_rfl) (by kernel_rfl) (fun _ _ _ h => h) (Or.inl ⟨by rfl, fun w _ => by go_simp⟩) hS ?_
      try simp only [Act.put, List.getElem_toArray, List.getElem_cons_zero, List.getElem_cons_succ, List.setIfInBounds_toArray, List.set_cons_zero, List.set_cons_succ]
      refine wpAnyH_take (i := 6) (v := .slice (some a2) n cap2) rfl (by kernel_rfl) (by kernel_rfl) (by kernel_rfl) (fun _ _ _ h => h) (Or.inl ⟨by rfl, fun w h => by have c := row_at h.2.1 1 _ rfl; go_simp⟩) hS ?_
      try simp only [Act.put, List.getElem_toArray, List.getElem_cons_zero, List.getElem_cons_succ, List.setIfInBounds_toArray, List.set_cons_zero, List.set_cons_succ]
      refine wpAnyH_take (i := 7) (v := .int .i64 k) rfl (by kernel_rfl) (by kernel_rfl) (by kernel_rfl) (fun _ _ _ h => h) (Or.inl ⟨by rfl, fun w _ => by rfl⟩) hS ?_
      try simp only [Act.put, List.getElem_toArray, List.getElem_cons_zero, List.getElem_cons_succ, List.setIfInBounds_toArray, List.set_cons_zero, List.set_cons_succ]
      refine wpAnyH_take (i := 8) (v := .pointer (some (a2.add (k * 6)))) rfl (by kernel_rfl) (by kernel_rfl) (by kernel_rfl) (fun _ _ _ h => h) (Or.inl ⟨by rfl, fun w _ => by go_simp⟩) hS ?_
      try simp only [Act.put, List.getElem_toArray, List.getElem_cons_zero, List.getElem_cons_succ, List.setIfInBounds_toArray, List.set_cons_zero, List.set_cons_succ]
      refine wpAnyH_take (i := 9) (v := .agg (O.arr ⟨l, p, t, np, ns, dl⟩)) rfl (by kernel_rfl) (by kernel_rfl) (by kernel_rfl) (fun _ _ _ h => h) (yields_any (by rfl) 50 (.tmp 34) rfl (a2.add (k * 6)) rfl (O.cells ⟨l, p, t, np, ns, dl⟩) (fun w h => fun j u hj => cell_keep (hc2 j u hj) h.2.2) Try.underlying50 rfl size50) hS ?_
      try simp only [Act.put, List.getElem_toArray, List.getElem_cons_zero, List.getElem_cons_succ, List.setIfInBounds_toArray, List.set_cons_zero, List.set_cons_succ]
      refine wpAnyH_take (i := 10) (v := .bool false) rfl (by kernel_rfl) (by kernel_rfl) (by kernel_rfl) (fun _ _ _ h => h) (yields_neq (by rfl) 50 50 (.tmp 30) (.tmp 35) rfl (O.arr ⟨l, p, t, np, ns, dl⟩) (O.arr ⟨l, p, t, np, ns, dl⟩) rfl rfl Try.eqGuardType50 true heq.out) hS ?_
      try simp only [Act.put, List.getElem_toArray, List.getElem_cons_zero, List.getElem_cons_succ, List.setIfInBounds_toArray, List.set_cons_zero, List.set_cons_succ]
      refine wpAnyH_done (by kernel_rfl) ?_ _
      go_wp2
      go_roundw
      case rel => exact ⟨k + 1, by go_num, by omega, hS.2.2, hS.1, hS.2.1⟩
      case measure => simp [intOf]; omega
    · obtain rfl : k = n := by omega
      have hkn' : ¬ (k : Int) < (k : Int) := by omega
      go_wp2
      go_ret
      exact ⟨rfl, rb⟩
def one : O := ⟨true, 0, 3, 0, 0, ByteArray.empty⟩
theorem one_fit : fit [] one = true := by decide
theorem one_added : added [] one = [one] := rfl
theorem one_may : may [one] = true := by decide
end Go.Proofs.Ytddhjkgefninbaa
