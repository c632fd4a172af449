/-
  Proved here: whether two lists of starts are alike (the document's SameStarts), a copy of a list of chunks (the statements' kept), whether a stream has a place (ring.within).
-/
import Derived.Test.YtbpaffjoedihbaaChl
namespace Go.Proofs.Ytbpaffjoedihbaa.St
open Go.ChangeShapes Go.WideShapes Go.ChangeAt Go.RowKit
set_option linter.unusedVariables false
set_option linter.unusedSimpArgs false

theorem yields_any {P : Program} {ops : Array Oper} {S : World → Prop} {op : Oper} {a : Act} (hw : Region.wanted op (yielded ops a.tmps) = true) (ty : TypeId) (x : Operand) (ho : op.op = .load ty x)
    (p : Addr) (hx : a.eval x = .pointer (some p)) (cs : List Value) {d : TypeDesc} (hc : ∀ w, S w → ∀ j v, cs[j]? = some v → w.cell? (p.add j) = some v)
    (hu : P.underlying ty = some d) (hd : d.isRow = true) (hi : (P.info? ty).map (·.size) = some cs.length) : YieldsIf P ops S op (.agg cs.toArray) a := by
  refine Or.inl ⟨hw, fun w hS => ?_⟩
  have hl : (loadCells p cs.length).run P w = .ok cs.toArray w := run_loadCells_list (P := P) w p cs (hc w hS)
  have hrun : (loadVar ty p).run P w = .ok (.agg cs.toArray) w := by
    cases hq : P.info? ty with
    | none => simp [hq] at hi
    | some i =>
      have hs : i.size = cs.length := by simpa [hq] using hi
      have hagg : (isAgg ty).run P w = .ok true w := by
        unfold isAgg
        rw [Sem.run_bind, run_underlying hu w]
        cases d <;> simp_all
      simp [loadVar, Sem.run_bind, hagg, sizeOf, typeInfo, hq, hs, hl]
  unfold execOp
  simp only [ho, hx, Instr.loadAt, Instr.sureAddr, Sem.run_bind, Sem.run_pure, Result.andThen_ok, hrun]
theorem equal78 (o p : O) (w : World) : (Op.equalIn 10000 78 (.agg o.arr) (.agg p.arr)).run Try.prog w = .ok (decide (o.num = p.num) && decide (o.off = p.off)) w := by
  cases o with | mk a b =>
  cases p with | mk a' b' =>
  unfold O.arr
  go_simp
  by_cases h1 : a = a'
  · by_cases h2 : b = b'
    · subst h1 h2; simp
    · simp [h1, h2]
  · simp [h1]
set_option maxHeartbeats 2000000 in
theorem same_any (v v2 : Value) (os : List O) (w : World) (ho : Olds w v os) (ho2 : Olds w v2 os) (hn : os.length ≤ 1000000000) :
    Calls Try.prog 21 #[v, v2] w fun e w' => e = .returned (.bool true) ∧ Below w.heap.size w w' := by
  obtain ⟨oa, cap, rfl, hcs⟩ := ho.hold
  obtain ⟨oa2, cap2, rfl, hcs2⟩ := ho2.hold
  have HCS : Hid _ := hcs
  have HCS2 : Hid _ := hcs2
  clear hcs hcs2 ho ho2
  obtain ⟨n, HN⟩ : ∃ n, Hid (os.length = n) := ⟨_, rfl⟩
  rw [HN.out] at HCS HCS2 hn ⊢
  go_enter Try.func21, Try.ntmps21
  go_wp2
  go_loopw [13] (fun d wr => ∃ (k : Nat), d = .int .i64 k ∧ k ≤ n ∧ Below w.heap.size w wr) (fun d _ => n - (intOf d).toNat)
  case atStart => exact ⟨0, rfl, by omega, Below.refl _ _⟩
  case round =>
    obtain ⟨k, rfl, hk, rb⟩ := hrel
    by_cases hkn : k < n
    · have hkn' : (k : Int) < (n : Int) := by omega
      obtain ⟨a, p, t, rfl, he, hc1⟩ := HCS.out k hkn
      obtain ⟨a2, p2, t2, rfl, he2, hc2⟩ := HCS2.out k hkn
      rw [he] at he2
      obtain ⟨rfl, rfl⟩ : p = p2 ∧ t = t2 := by simpa using he2
      have heq : Hid (∀ w, (Op.equalIn 10000 78 (.agg (O.arr ⟨p, t⟩)) (.agg (O.arr ⟨p, t⟩))).run Try.prog w = .ok true w) := fun w => by rw [equal78]; simp
      clear he he2
      go_upto_region 6 with fail
      refine wp_region_held_drew (S := fun w' => Below w.heap.size w w') (by kernel_rfl) rb.drew fun hS => ?_
      refine wpAnyH_take (i := 0) (v := .slice (some a) n cap) rfl (by kernel_rfl) (by kernel_rfl) (by kernel_rfl) (fun _ _ _ h => h) (Or.inl ⟨by rfl, fun w _ => by rfl⟩) hS ?_
      try simp only [Act.put, List.getElem_toArray, List.getElem_cons_zero, List.getElem_cons_succ, List.setIfInBounds_toArray, List.set_cons_zero, List.set_cons_succ]
      refine wpAnyH_take (i := 1) (v := .int .i64 k) rfl (by kernel_rfl) (by kernel_rfl) (by kernel_rfl) (fun _ _ _ h => h) (Or.inl ⟨by rfl, fun w _ => by rfl⟩) hS ?_
      try simp only [Act.put, List.getElem_toArray, List.getElem_cons_zero, List.getElem_cons_succ, List.setIfInBounds_toArray, List.set_cons_zero, List.set_cons_succ]
      refine wpAnyH_take (i := 2) (v := .pointer (some (a.add (k * 2)))) rfl (by kernel_rfl) (by kernel_rfl) (by kernel_rfl) (fun _ _ _ h => h) (Or.inl ⟨by rfl, fun w _ => by go_simp⟩) hS ?_
      try simp only [Act.put, List.getElem_toArray, List.getElem_cons_zero, List.getElem_cons_succ, List.setIfInBounds_toArray, List.set_cons_zero, List.set_cons_succ]
      refine wpAnyH_take (i := 3) (v := .agg (O.arr ⟨p, t⟩)) rfl (by kernel_rfl) (by kernel_rfl) (by kernel_rfl) (fun _ _ _ h => h) (yields_any (by rfl) 78 (.tmp 18) rfl (a.add (k * 2)) rfl (O.cells ⟨p, t⟩) (fun w h => fun j u hj => cell_keep (hc1 j u hj) h) Try.underlying78 rfl size78) hS ?_
      try simp only [Act.put, List.getElem_toArray, List.getElem_cons_zero, List.getElem_cons_succ, List.setIfInBounds_toArray, List.set_cons_zero, List.set_cons_succ]
      refine wpAnyH_take (i := 4) (v := .slice (some a2) n cap2) rfl (by kernel_rfl) (by kernel_rfl) (by kernel_rfl) (fun _ _ _ h => h) (Or.inl ⟨by rfl, fun w _ => by rfl⟩) hS ?_
      try simp only [Act.put, List.getElem_toArray, List.getElem_cons_zero, List.getElem_cons_succ, List.setIfInBounds_toArray, List.set_cons_zero, List.set_cons_succ]
      refine wpAnyH_take (i := 5) (v := .int .i64 k) rfl (by kernel_rfl) (by kernel_rfl) (by kernel_rfl) (fun _ _ _ h => h) (Or.inl ⟨by rfl, fun w _ => by rfl⟩) hS ?_
      try simp only [Act.put, List.getElem_toArray, List.getElem_cons_zero, List.getElem_cons_succ, List.setIfInBounds_toArray, List.set_cons_zero, List.set_cons_succ]
      refine wpAnyH_take (i := 6) (v := .pointer (some (a2.add (k * 2)))) rfl (by kernel_rfl) (by kernel_rfl) (by kernel_rfl) (fun _ _ _ h => h) (Or.inl ⟨by rfl, fun w _ => by go_simp⟩) hS ?_
      try simp only [Act.put, List.getElem_toArray, List.getElem_cons_zero, List.getElem_cons_succ, List.setIfInBounds_toArray, List.set_cons_zero, List.set_cons_succ]
      refine wpAnyH_take (i := 7) (v := .agg (O.arr ⟨p, t⟩)) rfl (by kernel_rfl) (by kernel_rfl) (by kernel_rfl) (fun _ _ _ h => h) (yields_any (by rfl) 78 (.tmp 22) rfl (a2.add (k * 2)) rfl (O.cells ⟨p, t⟩) (fun w h => fun j u hj => cell_keep (hc2 j u hj) h) Try.underlying78 rfl size78) hS ?_
      try simp only [Act.put, List.getElem_toArray, List.getElem_cons_zero, List.getElem_cons_succ, List.setIfInBounds_toArray, List.set_cons_zero, List.set_cons_succ]
      refine wpAnyH_take (i := 8) (v := .bool false) rfl (by kernel_rfl) (by kernel_rfl) (by kernel_rfl) (fun _ _ _ h => h) (yields_neq (by rfl) 78 78 (.tmp 19) (.tmp 23) rfl (O.arr ⟨p, t⟩) (O.arr ⟨p, t⟩) rfl rfl Try.eqGuardType78 true heq.out) hS ?_
      try simp only [Act.put, List.getElem_toArray, List.getElem_cons_zero, List.getElem_cons_succ, List.setIfInBounds_toArray, List.set_cons_zero, List.set_cons_succ]
      refine wpAnyH_done (by kernel_rfl) ?_ _
      go_wp2
      go_roundw
      case rel => exact ⟨k + 1, by go_num, by omega, hS⟩
      case measure => simp [intOf]; omega
    · obtain rfl : k = n := by omega
      have hkn' : ¬ (k : Int) < (k : Int) := by omega
      go_wp2
      go_ret
      exact ⟨rfl, rb⟩
end Go.Proofs.Ytbpaffjoedihbaa.St
namespace Go.Proofs.Ytbpaffjoedihbaa.Ck
open Go.ChangeShapes Go.WideShapes Go.ChangeAt Go.RowKit
set_option linter.unusedVariables false
set_option linter.unusedSimpArgs false

theorem kept_any (v : Value) (os : List O) (w : World) (h : Olds w v os) (hn : os.length ≤ 1000000000) : Calls Try.prog 18 #[v] w fun e w' => Cop w os e w' := by
  have hr := fun ty => run_copy w ty v os h hn
  have HR : Hid _ := hr
  clear hr h
  go_enter Try.func18, Try.ntmps18
  go_wp2_with (at_builtin; refine wpList_copy rfl (.tmp 3) (.tmp 4) 44 rfl _ _ rfl rfl (T := fun v' w' => Own w' w.heap.size v' os ∧ Below w.heap.size w w') (fun ty => HR.out ty) ?_; intro v' w' hT)
  go_ret
  exact ⟨v', rfl, hT⟩
end Go.Proofs.Ytbpaffjoedihbaa.Ck
namespace Go.Proofs.Ytbpaffjoedihbaa
open Go.ChangeShapes Go.WideShapes Go.ChangeAt Go.RowKit
set_option linter.unusedVariables false
set_option linter.unusedSimpArgs false

theorem has_any (base len at_ : Int) (w : World) (hb : 0 ≤ base ∧ base ≤ 18446744073709551615) (hl : 0 ≤ len ∧ len ≤ 9223372036854775807) (ha : 0 ≤ at_ ∧ at_ ≤ 18446744073709551615) :
    Calls Try.prog 36 #[.int .u64 base, .int .i64 len, .int .u64 at_] w fun e w' => e = .returned (.bool (decide (base ≤ at_ ∧ at_ - base ≤ len))) ∧ w' = w := by
  by_cases h1 : base ≤ at_
  · have h1' : at_ ≥ base := h1
    by_cases h2 : at_ - base ≤ len
    · rw [decide_eq_true (⟨h1, h2⟩ : base ≤ at_ ∧ at_ - base ≤ len)]
      go_enter Try.func36, Try.ntmps36
      go_wp2
      go_ret
      exact ⟨rfl, rfl⟩
    · rw [decide_eq_false (fun q => h2 q.2 : ¬ (base ≤ at_ ∧ at_ - base ≤ len))]
      go_enter Try.func36, Try.ntmps36
      go_wp2
      go_ret
      exact ⟨rfl, rfl⟩
  · have h1' : ¬ at_ ≥ base := h1
    rw [decide_eq_false (fun q => h1 q.1 : ¬ (base ≤ at_ ∧ at_ - base ≤ len))]
    go_enter Try.func36, Try.ntmps36
    go_wp2
    go_ret
    exact ⟨rfl, rfl⟩
end Go.Proofs.Ytbpaffjoedihbaa
