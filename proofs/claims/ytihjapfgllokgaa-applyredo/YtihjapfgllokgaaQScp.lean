/-
  Proved here: a copy of an undo page (slices.Clone, slot.cloned, and the document's Kept) has the same records, in new memory.
-/
import Derived.Test.YtihjapfgllokgaaQCopy
import Derived.Laws.Cover3
namespace Go.Proofs.Ytihjapfgllokgaa
open Go.ChangeShapes Go.WideShapes Go.ChangeAt Go.RowKit
set_option linter.unusedVariables false
set_option linter.unusedSimpArgs false
set_option maxRecDepth 20000

theorem eql_nil (a : Option Addr) (l c : Nat) (w : World) : (binOp .eql 80 (.slice a l c) (.slice none 0 0)).run Try.prog w = .ok (.bool a.isNone) w := by
  simp only [binOp]
  simp [run_equal_slice_nil w 80 31 a l c Try.underlying80]
theorem clone_any (v : Value) (os : List O) (w : World) (h : Olds w v os) (hn : os.length ≤ 1000000000) : Calls Try.prog 92 #[v] w fun e w' => Cop w os e w' := by
  have hr := fun ty => run_copy w ty v os h hn
  have HR : Hid _ := hr
  clear hr
  have hcase : (v = .slice none 0 0 ∧ os = []) ∨ ∃ a n cap, v = .slice (some a) n cap := by
    rcases h with h | ⟨a, cap, rfl, _⟩
    · exact Or.inl h
    · exact Or.inr ⟨a, _, cap, rfl⟩
  clear h
  rcases hcase with ⟨rfl, rfl⟩ | ⟨a, n, cap, rfl⟩
  · have hq := eql_nil none 0 0
    simp only [Option.isNone] at hq
    go_enter Try.func92, Try.ntmps92
    go_wp2
    go_ret
    exact ⟨_, rfl, ⟨rfl, Or.inl ⟨rfl, rfl⟩⟩, Below.refl _ _⟩
  · have hq := eql_nil (some a) n cap
    simp only [Option.isNone] at hq
    go_enter Try.func92, Try.ntmps92
    go_wp2_with (at_builtin; refine wpList_copy rfl (.tmp 5) (.tmp 6) 80 rfl _ _ rfl rfl (T := fun v' w' => Own w' w.heap.size v' os ∧ Below w.heap.size w w') (fun ty => HR.out ty) ?_; intro v' w' hT)
    go_ret
    exact ⟨v', rfl, hT⟩
set_option maxHeartbeats 1000000 in
theorem cloned_any (lsn : Int) (v : Value) (os : List O) (w : World) (h : Olds w v os) (hn : os.length ≤ 1000000000) : Calls Try.prog 85 #[.agg #[.int .u64 lsn, v]] w fun e w' => CopU w lsn os e w' := by
  obtain ⟨oa, cap, rfl, _⟩ := h.open
  obtain ⟨n, HN⟩ : ∃ n, Hid (os.length = n) := ⟨_, rfl⟩
  rw [HN.out] at h ⊢
  have r0 : Row ((w.alloc (.cells #[.int .u64 lsn, .slice oa n cap] 82)).alloc (.cells #[.int .u64 0, .slice none 0 0] 82)) w.heap.size #[.int .u64 lsn, .slice oa n cap] 82 := (Row.new _ _ _).alloc _
  have r1 : Row ((w.alloc (.cells #[.int .u64 lsn, .slice oa n cap] 82)).alloc (.cells #[.int .u64 0, .slice none 0 0] 82)) (w.heap.size + 1) #[.int .u64 0, .slice none 0 0] 82 := by have := Row.new (w.alloc (.cells #[.int .u64 lsn, .slice oa n cap] 82)) #[.int .u64 0, .slice none 0 0] 82; simpa using this
  have ab : Below w.heap.size w ((w.alloc (.cells #[.int .u64 lsn, .slice oa n cap] 82)).alloc (.cells #[.int .u64 0, .slice none 0 0] 82)) := ((Below.refl _ _).alloc (Nat.le_refl _) _).alloc (by simp) _
  have hz := zero82
  have hsz : Hid (((w.alloc (.cells #[.int .u64 lsn, .slice oa n cap] 82)).alloc (.cells #[.int .u64 0, .slice none 0 0] 82)).heap.size = w.heap.size + 2) := by simp [Hid]
  go_enter Try.func85, Try.ntmps85
  go_upto_region 1 with fail
  generalize (w.alloc (.cells #[.int .u64 lsn, .slice oa n cap] 82)).alloc (.cells #[.int .u64 0, .slice none 0 0] 82) = w1 at r0 r1 ab hsz ⊢
  refine wp_region_held_drew (S := fun w' => Row w' w.heap.size #[.int .u64 lsn, .slice oa n cap] 82) (by kernel_rfl) r0 fun hS => ?_
  refine wpAnyH_take (i := 0) (v := .pointer (some ⟨w.heap.size, 0, none⟩)) rfl (by kernel_rfl) (by kernel_rfl) (by kernel_rfl) (fun _ _ _ h => h) (Or.inl ⟨by rfl, fun w _ => by go_simp⟩) hS ?_
  try simp only [Act.put, List.getElem_toArray, List.getElem_cons_zero, List.getElem_cons_succ, List.setIfInBounds_toArray, List.set_cons_zero, List.set_cons_succ]
  refine wpAnyH_take (i := 1) (v := .int .u64 lsn) rfl (by kernel_rfl) (by kernel_rfl) (by kernel_rfl) (fun _ _ _ h => h) (Or.inl ⟨by rfl, fun w h => by have c := row_at h 0 _ rfl; go_simp⟩) hS ?_
  try simp only [Act.put, List.getElem_toArray, List.getElem_cons_zero, List.getElem_cons_succ, List.setIfInBounds_toArray, List.set_cons_zero, List.set_cons_succ]
  refine wpAnyH_take (i := 2) (v := .pointer (some ⟨w.heap.size, 1, none⟩)) rfl (by kernel_rfl) (by kernel_rfl) (by kernel_rfl) (fun _ _ _ h => h) (Or.inl ⟨by rfl, fun w _ => by go_simp⟩) hS ?_
  try simp only [Act.put, List.getElem_toArray, List.getElem_cons_zero, List.getElem_cons_succ, List.setIfInBounds_toArray, List.set_cons_zero, List.set_cons_succ]
  refine wpAnyH_take (i := 3) (v := .slice oa n cap) rfl (by kernel_rfl) (by kernel_rfl) (by kernel_rfl) (fun _ _ _ h => h) (Or.inl ⟨by rfl, fun w h => by have c := row_at h 1 _ rfl; go_simp⟩) hS ?_
  try simp only [Act.put, List.getElem_toArray, List.getElem_cons_zero, List.getElem_cons_succ, List.setIfInBounds_toArray, List.set_cons_zero, List.set_cons_succ]
  refine wpAnyH_ready (rs := [4]) (by kernel_rfl) (by simp) ?_
  refine AllReadyH.cons rfl (fun K hK => ?_) AllReadyH.nil
  go_simp
  go_at_call 92
  refine (clone_any _ os _ (h.keep (ab.trans (Below.refl _ _).drew)) hn).mono ?_
  rintro e wc ⟨v', rfl, hO, hcb⟩
  refine hK.out _ _ (hS.below hcb hS.lt) fun hS => ?_
  try simp only [Act.put, List.getElem_toArray, List.getElem_cons_zero, List.getElem_cons_succ, List.setIfInBounds_toArray, List.set_cons_zero, List.set_cons_succ]
  have r2 := Row.below (w := w1.drew) r1 hcb r1.lt
  obtain ⟨oa', cap', rfl⟩ := hO.form
  have bc : Below w.heap.size w wc := (ab.trans (Below.refl _ _).drew).trans (hcb.mono (by simp [hsz.out]))
  have hO2 : Own wc (w.heap.size + 2) (.slice oa' os.length cap') os := hO.base (by simp [hsz.out])
  refine wpAnyH_take (i := 5) (v := .agg #[.int .u64 lsn, .slice oa' os.length cap']) rfl (by kernel_rfl) (by kernel_rfl) (by kernel_rfl) (fun _ _ _ h => h) (Or.inl ⟨by rfl, fun w _ => by go_simp⟩) hS ?_
  try simp only [Act.put, List.getElem_toArray, List.getElem_cons_zero, List.getElem_cons_succ, List.setIfInBounds_toArray, List.set_cons_zero, List.set_cons_succ]
  refine wpAnyH_ready (rs := [6]) (by kernel_rfl) (by simp) ?_
  refine AllReadyH.cons rfl (fun K hK => step_cells rfl 82 (.tmp 2) (.tmp 8) rfl (w.heap.size + 1) #[.int .u64 lsn, .slice oa' os.length cap'] rfl rfl 82 _ r2 2 size82 rfl rfl (by simp [Value.oneCell']) (hK.out _ _ (hS.other (by omega) _) fun hS => ?_)) AllReadyH.nil
  try simp only [Act.put, List.getElem_toArray, List.getElem_cons_zero, List.getElem_cons_succ, List.setIfInBounds_toArray, List.set_cons_zero, List.set_cons_succ]
  refine wpAnyH_done (by kernel_rfl) ?_ _
  go_wp2
  refine bodyPost_ret (v := .agg #[.int .u64 lsn, .slice oa' os.length cap']) ?_ rfl ⟨_, rfl, (hO2.setRow (w.heap.size + 1) (by omega) _).base (by omega), below_setRow bc (by omega) _⟩
  exact ret_cell (fn := Try.f85) rfl _ _ (w.heap.size + 1) 82 #[.int .u64 lsn, .slice oa' os.length cap'] _ rfl (r2.set _) Try.underlying82 rfl size82
end Go.Proofs.Ytihjapfgllokgaa
