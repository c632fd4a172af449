/-
  Proved here: what disk.count, askBlock, Pending and forget do with a disk.
-/
import Derived.Test.YtcbjjofckhohjaaDisk
namespace Go.Proofs.Ytcbjjofckhohjaa
open Go.ChangeShapes Go.WideShapes Go.ChangeAt Go.RowKit
set_option linter.unusedVariables false
set_option linter.unusedSimpArgs false
set_option maxRecDepth 20000

theorem count_walk1 (w : World) (g : Nat) (q o : Int) (ho : q < 9223372036854775806) (h0 : 0 ≤ q) (HO : Hid (q + 1 = o))
    (c5 : w.cell? ⟨g, 5, none⟩ = some (.int .i64 q)) (f5 : w.frozen? ⟨g, 5, none⟩ = false) (w1 : World) (e1 : w.setCell ⟨g, 5, none⟩ (.int .i64 o) = w1)
    (c5' : w1.cell? ⟨g, 5, none⟩ = some (.int .i64 o)) (c6' : w1.cell? ⟨g, 6, none⟩ = some (.int .i64 o)) (dn : Bool) (c4' : w1.cell? ⟨g, 4, none⟩ = some (.bool dn)) (f4' : w1.frozen? ⟨g, 4, none⟩ = false) :
    Calls Try.prog 47 #[.pointer (some ⟨g, 0, none⟩)] w fun e w' => e = .returned (.int .i64 4) ∧ w' = (w1.drew).setCell ⟨g, 4, none⟩ (.bool true) := by
  have hw' : IntKind.i64.wrap (q + 1) = o := by rw [IntKind.wrap_i64, ← HO.out]; omega
  go_enter Try.func47, Try.ntmps47
  go_wp2
  go_region
  go_wp2
  go_ret
  exact ⟨rfl, rfl⟩
theorem count_walk2 (w : World) (g : Nat) (q o : Int) (ho : q < 9223372036854775806) (h0 : 0 ≤ q) (HO : Hid (q + 1 = o))
    (c5 : w.cell? ⟨g, 5, none⟩ = some (.int .i64 q)) (f5 : w.frozen? ⟨g, 5, none⟩ = false) (w1 : World) (e1 : w.setCell ⟨g, 5, none⟩ (.int .i64 o) = w1)
    (c5' : w1.cell? ⟨g, 5, none⟩ = some (.int .i64 o)) (fu : Int) (hf : ¬ o = fu) (c6' : w1.cell? ⟨g, 6, none⟩ = some (.int .i64 fu)) (fb : Bool) (lf : Value) (c7' : w1.cell? ⟨g, 7, none⟩ = some lf)
    (hg : g < w1.heap.size) (hlk : ∀ w', Below w1.heap.size w1 w' → (Instr.lookup 74 lf (.int .i64 o) true).run Try.prog w' = .ok (.tuple #[.agg #[], .bool fb]) w') :
    Calls Try.prog 47 #[.pointer (some ⟨g, 0, none⟩)] w fun e w' => e = .returned (.int .i64 (if fb then 3 else 0)) ∧ Below w1.heap.size w1 w' := by
  have hw' : IntKind.i64.wrap (q + 1) = o := by rw [IntKind.wrap_i64, ← HO.out]; omega
  have hz := zero85
  go_enter Try.func47, Try.ntmps47
  go_wp2
  go_region
  go_wp2
  refine wp_region_held_drew (S := Below w1.heap.size w1) (by kernel_rfl) ((Below.refl _ _).drew.drew) fun hS => ?_
  refine wpAnyH_take (i := 0) (v := .pointer (some ⟨g, 0, none⟩)) rfl (by kernel_rfl) (by kernel_rfl) (by kernel_rfl) (fun _ _ _ h => h) (Or.inl ⟨by rfl, fun w _ => by rfl⟩) hS ?_
  try simp only [Act.put, List.getElem_toArray, List.getElem_cons_zero, List.getElem_cons_succ, List.setIfInBounds_toArray, List.set_cons_zero, List.set_cons_succ]
  refine wpAnyH_take (i := 1) (v := .pointer (some ⟨g, 0, none⟩)) rfl (by kernel_rfl) (by kernel_rfl) (by kernel_rfl) (fun _ _ _ h => h) (Or.inl ⟨by rfl, fun w _ => by go_simp⟩) hS ?_
  try simp only [Act.put, List.getElem_toArray, List.getElem_cons_zero, List.getElem_cons_succ, List.setIfInBounds_toArray, List.set_cons_zero, List.set_cons_succ]
  refine wpAnyH_take (i := 2) (v := .pointer (some ⟨g, 7, none⟩)) rfl (by kernel_rfl) (by kernel_rfl) (by kernel_rfl) (fun _ _ _ h => h) (Or.inl ⟨by rfl, fun w _ => by go_simp⟩) hS ?_
  try simp only [Act.put, List.getElem_toArray, List.getElem_cons_zero, List.getElem_cons_succ, List.setIfInBounds_toArray, List.set_cons_zero, List.set_cons_succ]
  refine wpAnyH_take (i := 3) (v := lf) rfl (by kernel_rfl) (by kernel_rfl) (by kernel_rfl) (fun _ _ _ h => h) (Or.inl ⟨by rfl, fun w h => by have c := (show w.cell? ⟨g, 7, none⟩ = some (lf) from (h.cell (by simp; exact hg)).trans c7'); go_simp⟩) hS ?_
  try simp only [Act.put, List.getElem_toArray, List.getElem_cons_zero, List.getElem_cons_succ, List.setIfInBounds_toArray, List.set_cons_zero, List.set_cons_succ]
  refine wpAnyH_take (i := 4) (v := .pointer (some ⟨g, 0, none⟩)) rfl (by kernel_rfl) (by kernel_rfl) (by kernel_rfl) (fun _ _ _ h => h) (Or.inl ⟨by rfl, fun w _ => by rfl⟩) hS ?_
  try simp only [Act.put, List.getElem_toArray, List.getElem_cons_zero, List.getElem_cons_succ, List.setIfInBounds_toArray, List.set_cons_zero, List.set_cons_succ]
  refine wpAnyH_take (i := 5) (v := .pointer (some ⟨g, 0, none⟩)) rfl (by kernel_rfl) (by kernel_rfl) (by kernel_rfl) (fun _ _ _ h => h) (Or.inl ⟨by rfl, fun w _ => by go_simp⟩) hS ?_
  try simp only [Act.put, List.getElem_toArray, List.getElem_cons_zero, List.getElem_cons_succ, List.setIfInBounds_toArray, List.set_cons_zero, List.set_cons_succ]
  refine wpAnyH_take (i := 6) (v := .pointer (some ⟨g, 5, none⟩)) rfl (by kernel_rfl) (by kernel_rfl) (by kernel_rfl) (fun _ _ _ h => h) (Or.inl ⟨by rfl, fun w _ => by go_simp⟩) hS ?_
  try simp only [Act.put, List.getElem_toArray, List.getElem_cons_zero, List.getElem_cons_succ, List.setIfInBounds_toArray, List.set_cons_zero, List.set_cons_succ]
  refine wpAnyH_take (i := 7) (v := .int .i64 o) rfl (by kernel_rfl) (by kernel_rfl) (by kernel_rfl) (fun _ _ _ h => h) (Or.inl ⟨by rfl, fun w h => by have c := (show w.cell? ⟨g, 5, none⟩ = some (.int .i64 o) from (h.cell (by simp; exact hg)).trans c5'); go_simp⟩) hS ?_
  try simp only [Act.put, List.getElem_toArray, List.getElem_cons_zero, List.getElem_cons_succ, List.setIfInBounds_toArray, List.set_cons_zero, List.set_cons_succ]
  refine wpAnyH_take (i := 8) (v := .tuple #[.agg #[], .bool fb]) rfl (by kernel_rfl) (by kernel_rfl) (by kernel_rfl) (fun _ _ _ h => h) (Or.inl ⟨by rfl, fun w h => by have c := hlk w h; go_simp⟩) hS ?_
  try simp only [Act.put, List.getElem_toArray, List.getElem_cons_zero, List.getElem_cons_succ, List.setIfInBounds_toArray, List.set_cons_zero, List.set_cons_succ]
  refine wpAnyH_take (i := 9) (v := .tuple #[.agg #[], .bool fb]) rfl (by kernel_rfl) (by kernel_rfl) (by kernel_rfl) (fun _ _ _ h => h) (Or.inl ⟨by rfl, fun w _ => by rfl⟩) hS ?_
  try simp only [Act.put, List.getElem_toArray, List.getElem_cons_zero, List.getElem_cons_succ, List.setIfInBounds_toArray, List.set_cons_zero, List.set_cons_succ]
  refine wpAnyH_take (i := 10) (v := .agg #[]) rfl (by kernel_rfl) (by kernel_rfl) (by kernel_rfl) (fun _ _ _ h => h) (Or.inl ⟨by rfl, fun w _ => by go_simp⟩) hS ?_
  try simp only [Act.put, List.getElem_toArray, List.getElem_cons_zero, List.getElem_cons_succ, List.setIfInBounds_toArray, List.set_cons_zero, List.set_cons_succ]
  refine wpAnyH_take (i := 11) (v := .bool fb) rfl (by kernel_rfl) (by kernel_rfl) (by kernel_rfl) (fun _ _ _ h => h) (Or.inl ⟨by rfl, fun w _ => by go_simp⟩) hS ?_
  try simp only [Act.put, List.getElem_toArray, List.getElem_cons_zero, List.getElem_cons_succ, List.setIfInBounds_toArray, List.set_cons_zero, List.set_cons_succ]
  refine wpAnyH_ready (rs := [12]) (by kernel_rfl) (by simp) ?_
  refine AllReadyH.cons rfl (fun K hK => ?_) AllReadyH.nil
  go_simp
  refine hK.out _ _ (hS.alloc hS.size _) fun hS => ?_
  try simp only [Act.put, List.getElem_toArray, List.getElem_cons_zero, List.getElem_cons_succ, List.setIfInBounds_toArray, List.set_cons_zero, List.set_cons_succ]
  refine wpAnyH_ready (rs := [13]) (by kernel_rfl) (by simp) ?_
  refine AllReadyH.cons rfl (fun K hK => ?_) AllReadyH.nil
  go_simp
  refine hK.out _ _ hS fun hS => ?_
  try simp only [Act.put, List.getElem_toArray, List.getElem_cons_zero, List.getElem_cons_succ, List.setIfInBounds_toArray, List.set_cons_zero, List.set_cons_succ]
  refine wpAnyH_take (i := 14) (v := .bool fb) rfl (by kernel_rfl) (by kernel_rfl) (by kernel_rfl) (fun _ _ _ h => h) (Or.inl ⟨by rfl, fun w _ => by rfl⟩) hS ?_
  try simp only [Act.put, List.getElem_toArray, List.getElem_cons_zero, List.getElem_cons_succ, List.setIfInBounds_toArray, List.set_cons_zero, List.set_cons_succ]
  refine wpAnyH_done (by kernel_rfl) ?_ _
  cases fb with
  | true => go_wp2; go_ret; exact ⟨rfl, hS⟩
  | false => go_wp2; go_ret; exact ⟨rfl, hS⟩

theorem DAt.glt {w : World} {g : Nat} {d : Dsk} {L : Loc} {N : Nat} (h : DAt w g d L N) : g < w.heap.size := h.row.lt
theorem count_any {w : World} {g : Nat} {d : Dsk} {L : Loc} {N : Nat} (h : DAt w g d L N) (ho : d.ops < 9223372036854775806) :
    Calls Try.prog 47 #[.pointer (some ⟨g, 0, none⟩)] w fun e w' => e = .returned (.int .i64 (count d).1) ∧ DAt w' g (count d).2 L N ∧ Off (· = g) w w' := by
  have h0 := h.opsn
  have h1 := h.setOps (d.ops + 1) (by omega)
  have o1 : Off (· = g) w (w.setCell ⟨g, 5, none⟩ (.int .i64 (d.ops + 1))) := Off.of_setCell _ _ _ rfl
  have c5 := row_at h.row 5 (.int .i64 d.ops) rfl
  have f5 := row_frozen h.row 5
  have c5' := row_at h1.row 5 (.int .i64 (d.ops + 1)) rfl
  have c6' := row_at h1.row 6 (.int .i64 d.fuse) rfl
  have c4' := row_at h1.row 4 (.bool d.down) rfl
  have c7' := row_at h1.row 7 L.f rfl
  have f4' := row_frozen h1.row 4
  by_cases hf : d.ops + 1 = d.fuse
  · rw [← hf] at c6'
    have hc : count d = (4, { d with ops := d.ops + 1, down := true }) := by unfold count; rw [if_pos hf]
    refine (count_walk1 w g d.ops (d.ops + 1) ho h0 rfl c5 f5 _ rfl c5' c6' d.down c4' f4').mono ?_
    rintro e w' ⟨rfl, rfl⟩
    rw [hc]
    exact ⟨rfl, h1.drew.setDown true, o1.drew.trans (Off.of_setCell (F := (· = g)) _ _ _ rfl) (fun j hj => Or.inl hj)⟩
  · have hlk : ∀ w', Below (w.setCell ⟨g, 5, none⟩ (.int .i64 (d.ops + 1))).heap.size (w.setCell ⟨g, 5, none⟩ (.int .i64 (d.ops + 1))) w' → (Instr.lookup 74 L.f (.int .i64 (d.ops + 1)) true).run Try.prog w' = .ok (.tuple #[.agg #[], .bool (d.fails (d.ops + 1))]) w' :=
      fun w' hb => (h1.below hb).fails.look (wf_of (by omega) (by omega))
    refine (count_walk2 w g d.ops (d.ops + 1) ho h0 rfl c5 f5 _ rfl c5' d.fuse hf c6' (d.fails (d.ops + 1)) L.f c7' h1.glt hlk).mono ?_
    rintro e w' ⟨rfl, hb⟩
    have o2 : Off (· = g) w w' := o1.trans (Off.of_below (F := (· = g)) hb) (fun j hj => Or.inl hj)
    unfold count
    rw [if_neg hf]
    cases hfl : d.fails (d.ops + 1) with
    | true => exact ⟨rfl, h1.below hb, o2⟩
    | false => exact ⟨rfl, h1.below hb, o2⟩

/-- What an operation on a block is answered ahead of its being done. -/
def ask (d : Dsk) (b : Int) : Int × Dsk := if d.down then (4, d) else if 0 ≤ b ∧ b < d.n then count d else (1, d)
theorem ask_any {w : World} {g : Nat} {d : Dsk} {L : Loc} {N : Nat} (h : DAt w g d L N) (ho : d.ops < 9223372036854775806) (b : Int) :
    Calls Try.prog 33 #[.pointer (some ⟨g, 0, none⟩), .int .i64 b] w fun e w' => e = .returned (.int .i64 (ask d b).1) ∧ DAt w' g (ask d b).2 L N ∧ Off (· = g) w w' := by
  have r0 := Off.refl (· = g) w
  by_cases hd : d.down = true
  · have e : ask d b = (4, d) := by unfold ask; rw [if_pos hd]
    rw [e]
    go_enter Try.func33, Try.ntmps33
    go_wp2_with (go_at_call 45; refine (down_any h).mono ?_; rw [hd]; rintro e w' ⟨rfl, rfl⟩)
    go_ret
    exact ⟨rfl, h, r0⟩
  · have hd' : d.down = false := by simpa using hd
    by_cases hb : 0 ≤ b ∧ b < (d.n : Int)
    · have e : ask d b = count d := by unfold ask; rw [if_neg hd, if_pos hb]
      rw [e]
      have hc := count_any h ho
      generalize count d = c at hc ⊢
      have hb' : decide (0 ≤ b ∧ b < (d.n : Int)) = true := decide_eq_true hb
      clear hb
      go_enter Try.func33, Try.ntmps33
      go_wp2_with (first
        | (go_at_call 45; refine (down_any h).mono ?_; rw [hd']; rintro e w' ⟨rfl, rfl⟩)
        | (go_at_call 46; refine (has_any h b).mono ?_; rw [hb']; rintro e w' ⟨rfl, rfl⟩)
        | (go_at_call 47; refine hc.mono ?_; rintro e w' ⟨rfl, hD, hO⟩))
      go_ret
      exact ⟨rfl, hD, hO⟩
    · have e : ask d b = (1, d) := by unfold ask; rw [if_neg hd, if_neg hb]
      rw [e]
      have hb' : decide (0 ≤ b ∧ b < (d.n : Int)) = false := decide_eq_false hb
      clear hb
      go_enter Try.func33, Try.ntmps33
      go_wp2_with (first
        | (go_at_call 45; refine (down_any h).mono ?_; rw [hd']; rintro e w' ⟨rfl, rfl⟩)
        | (go_at_call 46; refine (has_any h b).mono ?_; rw [hb']; rintro e w' ⟨rfl, rfl⟩))
      go_ret
      exact ⟨rfl, h, r0⟩
end Go.Proofs.Ytcbjjofckhohjaa
