/-
  Proved here: what clock.Clear does.
-/
import Derived.Test.YtobdeijbmnenmabClk
namespace Go.Proofs.Ytobdeijbmnenmab
open Go.ChangeShapes Go.WideShapes Go.ChangeAt Go.RowKit
set_option linter.unusedVariables false
set_option linter.unusedSimpArgs false

theorem yields_build {P : Program} {ops : Array Oper} {S : World → Prop} {o : Oper} {a : Act} (hw : Region.wanted o (yielded ops a.tmps) = true) (t : TypeId) (parts : Array (Nat × Operand)) (ho : o.op = .build t parts)
    (vs : List (Nat × Value)) (hv : parts.toList.map (fun x => (x.1, a.eval x.2)) = vs) (cs : Array Value) (hb : P.built t vs = some cs) : YieldsIf P ops S o (.agg cs) a := by
  refine Or.inl ⟨hw, fun w hS => ?_⟩
  have e : (parts.map fun (i, x) => (i, a.eval x)).toList = vs := by rw [← hv, Array.toList_map]
  unfold execOp
  simp only [ho, Sem.run_bind, run_build w t _ cs (by rw [e]; exact hb), Result.andThen_ok, Sem.run_pure]
theorem step_of {P : Program} {ops : Array Oper} {o : Oper} {a : Act} {w : World} {K : Act → World → Prop} {Q : Exit → Act → World → Prop} {E : Prop} (hgd : o.guard = none) (h : Oper.wp P o a w K Q) :
    if Region.wanted o (yielded ops a.tmps) = true then Oper.wp P o a w K Q else E := by
  rw [if_pos (by simp [Region.wanted, hgd])]; exact h
theorem built53 (z : Int) : (Try.prog.built 53 [(2, .int .i64 z)]) = some #[.bool false, .bool false, .int .i64 z] := by kernel_rfl
theorem size53 : (Try.prog.info? 53).map (·.size) = some 3 := by kernel_rfl
theorem CAt.drew {w : World} {g a : Nat} {fs : List Fr} {h : Nat} {M : Int} (c : CAt w g a fs h M) : CAt w.drew g a fs h M := c.below (Below.refl _ _).drew
theorem CAt.there {w : World} {g a : Nat} {fs : List Fr} {h : Nat} {M : Int} (c : CAt w g a fs h M) {i : Nat} {x : Fr} (hx : fs[i]? = some x) : w.there a (i * 3) 3 := fun j hj => by
  have hl : (fcell x)[j]? = some ((fcell x)[j]'(by simpa [fcell] using hj)) := List.getElem?_eq_getElem _
  exact ⟨by rw [c.at hx j hj _ hl]; rfl, row_frozen c.arr _⟩
set_option maxHeartbeats 1000000 in
theorem clear_in {w : World} {g a : Nat} {fs : List Fr} {h : Nat} {M : Int} (c : CAt w g a fs h M) (i : Nat) (x : Fr) (hx : fs[i]? = some x) :
    Calls Try.prog 20 #[.pointer (some ⟨g, 0, none⟩), .int .i64 i] w fun e w' => e = .returned (.tuple #[]) ∧ CAt w' g a (fs.set i { x with seen := false, cold := false }) h M ∧ Off (two g a) w w' := by
  have hi := (List.getElem?_eq_some_iff.1 hx).1
  have hi' : (i : Int) < fs.length := by omega
  have hh := has_any c i
  rw [decide_eq_true (⟨by omega, by omega⟩)] at hh
  go_enter Try.func20, Try.ntmps20
  go_upto_region 1 with (go_at_call 22; refine hh.mono ?_; rintro e wa ⟨he, hww⟩; rw [hww]; clear hww wa; obtain rfl := he)
  have cd := c.drew
  refine wp_region_held_drew (S := fun w' => Row w' g #[.slice (some ⟨a, 0, none⟩) fs.length fs.length, .int .i64 h] 46 ∧ w'.cell? ⟨a, i * 3 + 2, none⟩ = some (.int .i64 x.pins)) (by kernel_rfl) ⟨cd.row, cd.at hx 2 (by omega) _ rfl⟩ fun hS => ?_
  refine wpAnyH_take (i := 0) (v := .pointer (some ⟨g, 0, none⟩)) rfl (by kernel_rfl) (by kernel_rfl) (by kernel_rfl) (fun _ _ _ h => h) (Or.inl ⟨by rfl, fun w _ => by rfl⟩) hS ?_
  try simp only [Act.put, List.getElem_toArray, List.getElem_cons_zero, List.getElem_cons_succ, List.setIfInBounds_toArray, List.set_cons_zero, List.set_cons_succ]
  refine wpAnyH_take (i := 1) (v := .pointer (some ⟨g, 0, none⟩)) rfl (by kernel_rfl) (by kernel_rfl) (by kernel_rfl) (fun _ _ _ h => h) (Or.inl ⟨by rfl, fun w _ => by go_simp⟩) hS ?_
  try simp only [Act.put, List.getElem_toArray, List.getElem_cons_zero, List.getElem_cons_succ, List.setIfInBounds_toArray, List.set_cons_zero, List.set_cons_succ]
  refine wpAnyH_take (i := 2) (v := .pointer (some ⟨g, 0, none⟩)) rfl (by kernel_rfl) (by kernel_rfl) (by kernel_rfl) (fun _ _ _ h => h) (Or.inl ⟨by rfl, fun w _ => by go_simp⟩) hS ?_
  try simp only [Act.put, List.getElem_toArray, List.getElem_cons_zero, List.getElem_cons_succ, List.setIfInBounds_toArray, List.set_cons_zero, List.set_cons_succ]
  refine wpAnyH_take (i := 3) (v := .slice (some ⟨a, 0, none⟩) fs.length fs.length) rfl (by kernel_rfl) (by kernel_rfl) (by kernel_rfl) (fun _ _ _ h => h) (Or.inl ⟨by rfl, fun w h => by have c := row_at h.1 0 _ rfl; go_simp⟩) hS ?_
  try simp only [Act.put, List.getElem_toArray, List.getElem_cons_zero, List.getElem_cons_succ, List.setIfInBounds_toArray, List.set_cons_zero, List.set_cons_succ]
  refine wpAnyH_take (i := 4) (v := .int .i64 (i : Nat)) rfl (by kernel_rfl) (by kernel_rfl) (by kernel_rfl) (fun _ _ _ h => h) (Or.inl ⟨by rfl, fun w _ => by rfl⟩) hS ?_
  try simp only [Act.put, List.getElem_toArray, List.getElem_cons_zero, List.getElem_cons_succ, List.setIfInBounds_toArray, List.set_cons_zero, List.set_cons_succ]
  refine wpAnyH_take (i := 5) (v := .pointer (some ⟨g, 0, none⟩)) rfl (by kernel_rfl) (by kernel_rfl) (by kernel_rfl) (fun _ _ _ h => h) (Or.inl ⟨by rfl, fun w _ => by rfl⟩) hS ?_
  try simp only [Act.put, List.getElem_toArray, List.getElem_cons_zero, List.getElem_cons_succ, List.setIfInBounds_toArray, List.set_cons_zero, List.set_cons_succ]
  refine wpAnyH_take (i := 6) (v := .pointer (some ⟨g, 0, none⟩)) rfl (by kernel_rfl) (by kernel_rfl) (by kernel_rfl) (fun _ _ _ h => h) (Or.inl ⟨by rfl, fun w _ => by go_simp⟩) hS ?_
  try simp only [Act.put, List.getElem_toArray, List.getElem_cons_zero, List.getElem_cons_succ, List.setIfInBounds_toArray, List.set_cons_zero, List.set_cons_succ]
  refine wpAnyH_take (i := 7) (v := .pointer (some ⟨g, 0, none⟩)) rfl (by kernel_rfl) (by kernel_rfl) (by kernel_rfl) (fun _ _ _ h => h) (Or.inl ⟨by rfl, fun w _ => by go_simp⟩) hS ?_
  try simp only [Act.put, List.getElem_toArray, List.getElem_cons_zero, List.getElem_cons_succ, List.setIfInBounds_toArray, List.set_cons_zero, List.set_cons_succ]
  refine wpAnyH_take (i := 8) (v := .slice (some ⟨a, 0, none⟩) fs.length fs.length) rfl (by kernel_rfl) (by kernel_rfl) (by kernel_rfl) (fun _ _ _ h => h) (Or.inl ⟨by rfl, fun w h => by have c := row_at h.1 0 _ rfl; go_simp⟩) hS ?_
  try simp only [Act.put, List.getElem_toArray, List.getElem_cons_zero, List.getElem_cons_succ, List.setIfInBounds_toArray, List.set_cons_zero, List.set_cons_succ]
  refine wpAnyH_take (i := 9) (v := .int .i64 (i : Nat)) rfl (by kernel_rfl) (by kernel_rfl) (by kernel_rfl) (fun _ _ _ h => h) (Or.inl ⟨by rfl, fun w _ => by rfl⟩) hS ?_
  try simp only [Act.put, List.getElem_toArray, List.getElem_cons_zero, List.getElem_cons_succ, List.setIfInBounds_toArray, List.set_cons_zero, List.set_cons_succ]
  refine wpAnyH_take (i := 10) (v := .pointer (some ⟨a, i * 3, none⟩)) rfl (by kernel_rfl) (by kernel_rfl) (by kernel_rfl) (fun _ _ _ h => h) (Or.inl ⟨by rfl, fun w _ => by go_simp⟩) hS ?_
  try simp only [Act.put, List.getElem_toArray, List.getElem_cons_zero, List.getElem_cons_succ, List.setIfInBounds_toArray, List.set_cons_zero, List.set_cons_succ]
  refine wpAnyH_take (i := 11) (v := .pointer (some ⟨a, i * 3 + 2, none⟩)) rfl (by kernel_rfl) (by kernel_rfl) (by kernel_rfl) (fun _ _ _ h => h) (Or.inl ⟨by rfl, fun w _ => by go_simp⟩) hS ?_
  try simp only [Act.put, List.getElem_toArray, List.getElem_cons_zero, List.getElem_cons_succ, List.setIfInBounds_toArray, List.set_cons_zero, List.set_cons_succ]
  refine wpAnyH_take (i := 12) (v := .int .i64 x.pins) rfl (by kernel_rfl) (by kernel_rfl) (by kernel_rfl) (fun _ _ _ h => h) (Or.inl ⟨by rfl, fun w h => by have c := h.2; go_simp⟩) hS ?_
  try simp only [Act.put, List.getElem_toArray, List.getElem_cons_zero, List.getElem_cons_succ, List.setIfInBounds_toArray, List.set_cons_zero, List.set_cons_succ]
  refine wpAnyH_take (i := 13) (v := .agg #[.bool false, .bool false, .int .i64 x.pins]) rfl (by kernel_rfl) (by kernel_rfl) (by kernel_rfl) (fun _ _ _ h => h) (yields_build (by rfl) 53 #[(2, .tmp 19)] rfl [(2, .int .i64 x.pins)] (by rfl) _ (built53 _)) hS ?_
  try simp only [Act.put, List.getElem_toArray, List.getElem_cons_zero, List.getElem_cons_succ, List.setIfInBounds_toArray, List.set_cons_zero, List.set_cons_succ]
  refine wpAnyH_take (i := 14) (v := .pointer (some ⟨a, i * 3, none⟩)) rfl (by kernel_rfl) (by kernel_rfl) (by kernel_rfl) (fun _ _ _ h => h) (Or.inl ⟨by rfl, fun w _ => by go_simp⟩) hS ?_
  try simp only [Act.put, List.getElem_toArray, List.getElem_cons_zero, List.getElem_cons_succ, List.setIfInBounds_toArray, List.set_cons_zero, List.set_cons_succ]
  refine wpAnyH_ready (rs := [15]) (by kernel_rfl) (by simp) ?_
  have hp := c.pins x (List.mem_of_getElem? hx)
  have t1 := cd.turn (M' := M) (y := { x with seen := false }) hx 0 (by omega) (.bool false) rfl rfl (by omega) c.big hp
  have t2 := t1.turn (M' := M) (i := i) (x := { x with seen := false }) (y := { x with seen := false, cold := false }) (by simp [hi]) 1 (by omega) (.bool false) rfl rfl (by omega) c.big hp
  have t3 := t2.turn (M' := M) (i := i) (x := { x with seen := false, cold := false }) (y := { x with seen := false, cold := false }) (by simp [hi]) 2 (by omega) (.int .i64 x.pins) rfl rfl (by omega) c.big hp
  rw [List.set_set, List.set_set] at t3
  have o3 : Off (two g a) w (((w.drew.setCell ⟨a, i * 3, none⟩ (.bool false)).setCell ⟨a, i * 3 + 1, none⟩ (.bool false)).setCell ⟨a, i * 3 + 2, none⟩ (.int .i64 x.pins)) :=
    (((Off.refl (two g a) w).drew.trans (Off.of_setCell (F := two g a) _ _ _ (Or.inr rfl)) (fun _ q => Or.inl q)).trans (Off.of_setCell (F := two g a) _ _ _ (Or.inr rfl)) (fun _ q => Or.inl q)).trans (Off.of_setCell (F := two g a) _ _ _ (Or.inr rfl)) (fun _ q => Or.inl q)
  refine AllReadyH.cons rfl (fun K hK => step_of rfl (wp_store_mid 53 (.tmp 21) (.tmp 20) rfl a (i * 3) #[.bool false, .bool false, .int .i64 x.pins] rfl rfl (cd.there hx) size53 (by simp [Value.oneCell']) (hK.out _ _ ⟨by have := t3.row; rwa [List.length_set] at this, t3.at (x := { x with seen := false, cold := false }) (by simp [hi]) 2 (by omega) _ rfl⟩ fun hS => ?_))) AllReadyH.nil
  try simp only [Act.put, List.getElem_toArray, List.getElem_cons_zero, List.getElem_cons_succ, List.setIfInBounds_toArray, List.set_cons_zero, List.set_cons_succ]
  refine wpAnyH_done (by kernel_rfl) ?_ _
  go_wp2
  first
    | (go_end0; exact ⟨rfl, t3, o3⟩)
    | (refine bodyPost_ret (results_none rfl _ _ _) rfl ?_; exact ⟨rfl, t3, o3⟩)
end Go.Proofs.Ytobdeijbmnenmab
