/-
  Proved here: what planning and syncing make of the document's disk.
-/
import Derived.Test.YtkgmhliocfbdfaaRrd
namespace Go.Proofs.Ytkgmhliocfbdfaa
open Go.ChangeShapes Go.WideShapes Go.ChangeAt Go.RowKit
set_option linter.unusedVariables false
set_option linter.unusedSimpArgs false

theorem info69 : (Try.prog.info? 69).map (fun i => (i.zero, i.size, i.bytes)) = some (some (.agg (wcells 0 0 (zs 64))), 66, 80) := by kernel_rfl
theorem pcells_append (l m : List (Int × Int × List Int)) : pcells (l ++ m) = pcells l ++ pcells m := by simp [pcells]
theorem pcells_len (l : List (Int × Int × List Int)) (h : ∀ q ∈ l, okW q) : (pcells l).length = l.length * 66 := by
  induction l with
  | nil => rfl
  | cons q r ih =>
    show (pcell q ++ pcells r).length = _
    rw [List.length_append, ih (fun q hq => h q (by simp [hq]))]
    simp [pcell, (h q (by simp)).2.2.1]; omega
theorem pcells_one (l : List (Int × Int × List Int)) : ∀ u ∈ pcells l, u.oneCell' = true := fun u hu => by
  unfold pcells at hu
  obtain ⟨q, _, hq⟩ := List.mem_flatMap.1 hu
  exact pcell_one q u hq
/-- One list of writes behind another one. -/
theorem run_join {w : World} {vs vp : Value} {l m : List (Int × Int × List Int)} (h0 : w.ownsRow 0 69 66 vs l.length (pcells l)) (h1 : w.ownsRow 0 69 66 vp m.length (pcells m)) (hm : ∀ q ∈ m, okW q) (hb : l.length + m.length < 1000000000) (ty : TypeId) :
    ∃ v' w', (Builtin.append_ #[27, 27] ty #[vs, vp]).run Try.prog w = .ok v' w' ∧ (w'.ownsRow 0 69 66 v' (l ++ m).length (pcells (l ++ m)) ∧ w.grownBy w' vs.ownBlock ∧ (v'.ownBlock = vs.ownBlock ∨ v'.ownBlock = some w.heap.size)) := by
  obtain ⟨i, hi, hz, hs, hby⟩ := info_parts info69
  rcases h1.2 with ⟨rfl, h0m⟩ | ⟨g, cap, cur, rfl, _, hr, _, _, _, ht⟩
  · have hm0 : m = [] := List.eq_nil_of_length_eq_zero h0m
    subst hm0
    refine ⟨_, _, run_append_owned_none (P := Try.prog) (w := w) 0 27 ty 69 i 66 Try.underlying27 hi vs l.length (pcells l) h0, ?_⟩
    rw [List.append_nil]
    exact ⟨h0, ⟨rfl, rfl, rfl, Nat.le_refl _, fun _ _ _ => rfl⟩, Or.inl rfl⟩
  · obtain ⟨v', w', hrun, h2, h3, _, h5⟩ := run_append_own_at (P := Try.prog) w 0 27 ty 69 i _ 66 80 Try.underlying27 hi hz hs hby (wcells_size _ _ _ (zs_length 64)) (by decide) vs l.length (pcells l) h0 ⟨g, 0, none⟩ m.length cap (pcells m) (pcells_len m hm) (fun j u hj => by
      rw [Addr.add_mid, Nat.zero_add]
      refine row_at (cs := cur) (t := 69) hr j _ ?_
      rw [← ht, List.getElem?_take] at hj
      split at hj
      · simpa using hj
      · cases hj) (pcells_one m) (by unfold maxLen; omega) (by omega) (Nat.zero_le _)
    exact ⟨v', w', hrun, by rw [List.length_append, pcells_append]; exact h2, h3, h5⟩
def rplan (R : RD) (zl : List Int) (f : Int) : RD := { R with fails := zl, fuse := f, ops := 0 }
def RPlanned (w : World) (r : Nat) (R : RD) (vs vp : Value) (N : Nat) (zl : List Int) (f : Int) (e : Ending) (w' : World) : Prop := e = .returned (.tuple #[]) ∧ ∃ vf', RDAt w' r (rplan R zl f) vs vp vf' N ∧ Off (· = r) w w' ∧ ∀ j, vf'.ownBlock = some j → w.heap.size ≤ j
theorem run_copyO (w : World) (zl : List Int) (v : Value) (h : Cel w v (zl.map (.int .i64))) (h63 : zl.length * 8 ≤ 140737488355328) (ty : TypeId) :
    ∃ v' w', (Builtin.append_ #[28, 28] ty #[.slice (some ⟨w.heap.size, 0, none⟩) 0 0, v]).run Try.prog (w.alloc (.cells #[] 3)) = .ok v' w' ∧ (w'.ownsRow w.heap.size 3 1 v' zl.length (zl.map (.int .i64)) ∧ Below w.heap.size w w') := by
  obtain ⟨i, hi, hz, hs, hby⟩ := info_parts info3
  have hown : (w.alloc (.cells #[] 3)).ownsRow w.heap.size 3 1 (.slice (some ⟨w.heap.size, 0, none⟩) 0 0) 0 [] := World.ownsRow_made w #[] 0 (Nat.le_refl _) (Nat.zero_le _) rfl
  have b0 : Below w.heap.size w (w.alloc (.cells #[] 3)) := (Below.refl _ _).alloc (Nat.le_refl _) _
  rcases h with ⟨rfl, hzl⟩ | ⟨a, cap, rfl, hc⟩
  · have : zl = [] := by simpa using hzl
    subst this
    exact ⟨_, _, run_append_owned_none (P := Try.prog) (w := w.alloc (.cells #[] 3)) w.heap.size 28 ty 3 i 1 Try.underlying28 hi _ 0 [] hown, hown, b0⟩
  · obtain ⟨v', w', hr, h2, h3, h4, h5⟩ := run_append_own_at (P := Try.prog) (w.alloc (.cells #[] 3)) w.heap.size 28 ty 3 i _ 1 8 Try.underlying28 hi hz hs hby rfl (by decide) _ 0 [] hown a (zl.map (Value.int .i64)).length cap (zl.map (Value.int .i64)) (by simp) (fun j u hj => cell_keep (hc j u hj) b0) (by intro u hu; obtain ⟨z, _, rfl⟩ := List.mem_map.1 hu; rfl) (by rw [List.length_map]; unfold maxLen; omega) (by rw [List.length_map, Nat.zero_add]; exact h63) (by simp)
    refine ⟨v', w', hr, ?_, b0.grown h3 (by simp) (fun k hk => ?_)⟩
    · simp only [List.nil_append, Nat.zero_add, List.length_map] at h2; exact h2
    · simp [Value.ownBlock] at hk
      omega
theorem own_low {w : World} {base : Nat} {e : TypeId} {s : Nat} {v : Value} {n : Nat} {xs : List Value} (h : w.ownsRow base e s v n xs) : w.ownsRow 0 e s v n xs := by
  obtain ⟨h1, h2⟩ := h
  refine ⟨h1, ?_⟩
  rcases h2 with h2 | ⟨g, cap, cur, e1, _, rest⟩
  · exact Or.inl h2
  · exact Or.inr ⟨g, cap, cur, e1, Nat.zero_le _, rest⟩
theorem rplan_any {w : World} {r : Nat} {R : RD} {vs vp vf : Value} {N : Nat} (h : RDAt w r R vs vp vf N) (v : Value) (zl : List Int) (hv : Cel w v (zl.map (.int .i64))) (h63 : zl.length * 8 ≤ 140737488355328) (f : Int) (hf : Wf f) :
    Calls Try.prog 16 #[.pointer (some ⟨r, 0, none⟩), v, .int .i64 f] w fun e w' => RPlanned w r R vs vp N zl f e w' := by
  have HR : Hid _ := fun ty => run_copyO w zl v hv h63 ty
  have hrl := h.row.lt
  go_enter Try.func16, Try.ntmps16
  go_wp2_with (first
    | (at_builtin; refine wpList_copy rfl (.tmp 7) (.tmp 8) 28 rfl _ _ rfl rfl (T := fun v' w' => w'.ownsRow w.heap.size 3 1 v' zl.length (zl.map (.int .i64)) ∧ Below w.heap.size w w') (fun ty => HR.out ty) ?_; intro v' w2 hT; obtain ⟨oa, cap, hv2⟩ := own_form hT.1; subst hv2
       have h2 := h.below hT.2
       have c3 := row_at h2.row 3 _ rfl
       have f3 := row_frozen h2.row 3
       have q3 := row_set h2.row 3 (.slice oa zl.length cap)
       have c4 := row_at q3 4 _ rfl
       have f4 := row_frozen q3 4
       have q4 := row_set q3 4 (.int .i64 f)
       have c5 := row_at q4 5 _ rfl
       have f5 := row_frozen q4 5))
  have q5 := row_set q4 5 (.int .i64 0)
  have ofs : Off (· = r) w2 (((w2.setCell ⟨r, 3, none⟩ (.slice oa zl.length cap)).setCell ⟨r, 4, none⟩ (.int .i64 f)).setCell ⟨r, 5, none⟩ (.int .i64 0)) := ((Off.of_setCell (F := (· = r)) _ _ _ rfl).trans (Off.of_setCell (F := (· = r)) _ _ _ rfl) (fun _ q => Or.inl q)).trans (Off.of_setCell (F := (· = r)) _ _ _ rfl) (fun _ q => Or.inl q)
  have hnew : ∀ j, (Value.slice oa zl.length cap).ownBlock = some j → w.heap.size ≤ j := fun j e => (World.ownsRow.lt hT.1 j e).1
  have hD : RDAt (((w2.setCell ⟨r, 3, none⟩ (.slice oa zl.length cap)).setCell ⟨r, 4, none⟩ (.int .i64 f)).setCell ⟨r, 5, none⟩ (.int .i64 0)) r (rplan R zl f) vs vp (.slice oa zl.length cap) N :=
    ⟨q5, own_off h2.sure ofs (fun k e q => h.sr (q ▸ e)), own_off h2.pend ofs (fun k e q => h.pr (q ▸ e)), own_off (own_low hT.1) ofs (fun k e q => by have := hnew k e; omega), h.sp,
     fun k e e2 => by have := hnew k e2; have := (h.sure.lt k e).2; omega, fun k e e2 => by have := hnew k e2; have := (h.pend.lt k e).2; omega, h.sr, h.pr, fun e => by have := hnew r e; omega,
     h.oks, h.okp, h.bound, h.big, by show zl.length ≤ _; omega, by show (0 : Int) ≤ 0; omega, hf⟩
  have oo := (Off.of_below (F := (· = r)) hT.2).trans ofs (fun _ q => Or.inl q)
  first
    | (go_end0; exact ⟨rfl, _, hD, oo, hnew⟩)
    | (refine bodyPost_ret (results_none rfl _ _ _) rfl ?_; exact ⟨rfl, _, hD, oo, hnew⟩)
/-- What syncing answers, and makes. -/
def rsync (R : RD) : Int × RD := if R.down then (4, R) else if (rcount R).1 = 0 then (0, { (rcount R).2 with sure := (rcount R).2.sure ++ (rcount R).2.pend, pend := [] }) else (rcount R)
set_option maxHeartbeats 1000000 in
set_option maxRecDepth 20000 in
theorem rsync_any {w : World} {r : Nat} {R : RD} {vs vp vf : Value} {N : Nat} (h : RDAt w r R vs vp vf N) (ho : R.ops < 9223372036854775806) :
    Calls Try.prog 15 #[.pointer (some ⟨r, 0, none⟩)] w fun e w' => e = .returned (.int .i64 (rsync R).1) ∧ RStep w r vs vp vf (rsync R).2 N w' := by
  obtain ⟨PP, HP⟩ : ∃ P : Ending → World → Prop, Hid (P = fun e w' => e = .returned (.int .i64 (rsync R).1) ∧ RStep w r vs vp vf (rsync R).2 N w') := ⟨_, rfl⟩
  rw [show (fun e w' => e = .returned (.int .i64 (rsync R).1) ∧ RStep w r vs vp vf (rsync R).2 N w') = PP from HP.out.symm]
  have HRT : Hid (∀ (E : Int) (R' : RD) (w' : World), rsync R = (E, R') → RStep w r vs vp vf R' N w' → PP (.returned (.int .i64 E)) w') := fun E R' w' q1 q2 => by
    rw [HP.out, q1]; exact ⟨rfl, q2⟩
  clear HP
  have c6 : w.cell? ⟨r, 6, none⟩ = some (.bool R.down) := row_at h.row 6 _ rfl
  have plain : ∀ {R' : RD} {w' : World}, RDAt w' r R' vs vp vf N → Off (· = r) w w' → RStep w r vs vp vf R' N w' := fun q1 q2 => ⟨vs, vp, vf, q1, q2.mono (fun j q => Or.inl (Or.inl q)), fun j q => Or.inl q⟩
  by_cases hd : R.down = true
  · rw [hd] at c6
    have HRR : Hid (PP (.returned (.int .i64 4)) w) := HRT.out 4 R w (by unfold rsync; rw [if_pos hd]) (plain h (Off.refl _ _))
    clear hd
    go_enter Try.func15, Try.ntmps15
    go_wp2_with fail
    try go_ret
    exact HRR.out
  · have hd' : R.down = false := by simpa using hd
    rw [hd'] at c6
    have hr : rsync R = if (rcount R).1 = 0 then (0, { (rcount R).2 with sure := (rcount R).2.sure ++ (rcount R).2.pend, pend := [] }) else (rcount R) := by unfold rsync; rw [if_neg hd]
    have hop := rop_any h ho
    generalize rcount R = rc at hop hr
    obtain ⟨E, R'⟩ := rc
    simp only at hop hr
    clear hd hd'
    by_cases hE : E = 0
    · rw [if_pos hE] at hr
      subst hE
      have HRR : Hid _ := hr
      clear hr
      go_enter Try.func15, Try.ntmps15
      go_upto_region 6 with (first
        | (go_at_call 32; refine hop.mono ?_; clear hop; rintro e w2 ⟨he, D2, o2⟩; obtain rfl := he))
      obtain ⟨oa0, cap0, e0⟩ := own_form D2.sure
      obtain ⟨oa1, cap1, e1⟩ := own_form D2.pend
      obtain ⟨n0, Hn0⟩ : ∃ n, Hid (R'.sure.length = n) := ⟨_, rfl⟩
      obtain ⟨n1, Hn1⟩ : ∃ n, Hid (R'.pend.length = n) := ⟨_, rfl⟩
      rw [Hn0.out] at e0
      rw [Hn1.out] at e1
      subst e0 e1
      refine wp_region_last (S := fun w' => Row w' r (rdcells R' (.slice oa0 n0 cap0) (.slice oa1 n1 cap1) vf) 30) 12 (by kernel_rfl) D2.row fun hS => ?_
      refine wpAnyL_take (i := 0) (v := .pointer (some ⟨r, 0, none⟩)) rfl (by kernel_rfl) (by kernel_rfl) (by kernel_rfl) (by kernel_rfl) (fun _ _ _ h => h) (Or.inl ⟨by rfl, fun w _ => by rfl⟩) hS ?_
      try simp only [Act.put, List.getElem_toArray, List.getElem_cons_zero, List.getElem_cons_succ, List.setIfInBounds_toArray, List.set_cons_zero, List.set_cons_succ]
      refine wpAnyL_take (i := 1) (v := .pointer (some ⟨r, 0, none⟩)) rfl (by kernel_rfl) (by kernel_rfl) (by kernel_rfl) (by kernel_rfl) (fun _ _ _ h => h) (Or.inl ⟨by rfl, fun w _ => by rfl⟩) hS ?_
      try simp only [Act.put, List.getElem_toArray, List.getElem_cons_zero, List.getElem_cons_succ, List.setIfInBounds_toArray, List.set_cons_zero, List.set_cons_succ]
      refine wpAnyL_take (i := 2) (v := .pointer (some ⟨r, 0, none⟩)) rfl (by kernel_rfl) (by kernel_rfl) (by kernel_rfl) (by kernel_rfl) (fun _ _ _ h => h) (Or.inl ⟨by rfl, fun w _ => by go_simp⟩) hS ?_
      try simp only [Act.put, List.getElem_toArray, List.getElem_cons_zero, List.getElem_cons_succ, List.setIfInBounds_toArray, List.set_cons_zero, List.set_cons_succ]
      refine wpAnyL_take (i := 3) (v := .pointer (some ⟨r, 1, none⟩)) rfl (by kernel_rfl) (by kernel_rfl) (by kernel_rfl) (by kernel_rfl) (fun _ _ _ h => h) (Or.inl ⟨by rfl, fun w _ => by go_simp⟩) hS ?_
      try simp only [Act.put, List.getElem_toArray, List.getElem_cons_zero, List.getElem_cons_succ, List.setIfInBounds_toArray, List.set_cons_zero, List.set_cons_succ]
      refine wpAnyL_take (i := 4) (v := .slice oa0 n0 cap0) rfl (by kernel_rfl) (by kernel_rfl) (by kernel_rfl) (by kernel_rfl) (fun _ _ _ h => h) (Or.inl ⟨by rfl, fun w h => by have c := row_at h 1 _ rfl; simp only [rdcells, List.getElem_toArray, List.getElem_cons_zero, List.getElem_cons_succ] at c; go_simp⟩) hS ?_
      try simp only [Act.put, List.getElem_toArray, List.getElem_cons_zero, List.getElem_cons_succ, List.setIfInBounds_toArray, List.set_cons_zero, List.set_cons_succ]
      refine wpAnyL_take (i := 5) (v := .pointer (some ⟨r, 0, none⟩)) rfl (by kernel_rfl) (by kernel_rfl) (by kernel_rfl) (by kernel_rfl) (fun _ _ _ h => h) (Or.inl ⟨by rfl, fun w _ => by rfl⟩) hS ?_
      try simp only [Act.put, List.getElem_toArray, List.getElem_cons_zero, List.getElem_cons_succ, List.setIfInBounds_toArray, List.set_cons_zero, List.set_cons_succ]
      refine wpAnyL_take (i := 6) (v := .pointer (some ⟨r, 0, none⟩)) rfl (by kernel_rfl) (by kernel_rfl) (by kernel_rfl) (by kernel_rfl) (fun _ _ _ h => h) (Or.inl ⟨by rfl, fun w _ => by go_simp⟩) hS ?_
      try simp only [Act.put, List.getElem_toArray, List.getElem_cons_zero, List.getElem_cons_succ, List.setIfInBounds_toArray, List.set_cons_zero, List.set_cons_succ]
      refine wpAnyL_take (i := 7) (v := .pointer (some ⟨r, 2, none⟩)) rfl (by kernel_rfl) (by kernel_rfl) (by kernel_rfl) (by kernel_rfl) (fun _ _ _ h => h) (Or.inl ⟨by rfl, fun w _ => by go_simp⟩) hS ?_
      try simp only [Act.put, List.getElem_toArray, List.getElem_cons_zero, List.getElem_cons_succ, List.setIfInBounds_toArray, List.set_cons_zero, List.set_cons_succ]
      refine wpAnyL_take (i := 8) (v := .slice oa1 n1 cap1) rfl (by kernel_rfl) (by kernel_rfl) (by kernel_rfl) (by kernel_rfl) (fun _ _ _ h => h) (Or.inl ⟨by rfl, fun w h => by have c := row_at h 2 _ rfl; simp only [rdcells, List.getElem_toArray, List.getElem_cons_zero, List.getElem_cons_succ] at c; go_simp⟩) hS ?_
      try simp only [Act.put, List.getElem_toArray, List.getElem_cons_zero, List.getElem_cons_succ, List.setIfInBounds_toArray, List.set_cons_zero, List.set_cons_succ]
      have hS0 := D2.below (Below.refl _ w2).drew
      have HRJ : Hid _ := fun ty => run_join hS0.sure hS0.pend hS0.okp (by have := hS0.bound; have := hS0.big; omega) ty
      refine wpAnyL_ready (rs := [9]) (by kernel_rfl) (by simp) ?_
      refine AllReadyL.cons rfl (fun K hK => step_of rfl (wp_copy (.tmp 17) (.tmp 21) 27 rfl _ _ rfl rfl (fun ty => HRJ.out ty) ?_)) AllReadyL.nil
      rintro v9 w9 ⟨own9, gr9, ob9⟩
      have og : Off (fun k => (Value.slice oa0 n0 cap0).ownBlock = some k) w2.drew w9 := Off.of_grown gr9 (fun k e => e)
      have r9 := hS0.row.off og hS0.sr
      have f9 := own_off hS0.fails og (fun k e e2 => hS0.sf k e2 e)
      obtain ⟨oa9, cap9, hv9⟩ := own_form own9
      obtain ⟨n9, Hn9⟩ : ∃ n, Hid ((R'.sure ++ R'.pend).length = n) := ⟨_, rfl⟩
      rw [Hn9.out] at hv9
      subst hv9
      have q1 := row_set r9 1 (.slice oa9 n9 cap9)
      have q2 := row_set q1 2 (.slice none 0 0)
      have s1 : w9.cell? ⟨r, 1, none⟩ = some (.slice oa0 n0 cap0) := row_at r9 1 _ rfl
      have t1 := row_frozen r9 1
      have s2 : (w9.setCell ⟨r, 1, none⟩ (.slice oa9 n9 cap9)).cell? ⟨r, 2, none⟩ = some (.slice oa1 n1 cap1) := row_at q1 2 _ rfl
      have t2 := row_frozen q1 2
      have hne : ∀ k, (Value.slice oa9 n9 cap9).ownBlock = some k → k ≠ r ∧ vf.ownBlock ≠ some k ∧ ((Value.slice oa0 n0 cap0).ownBlock = some k ∨ w2.heap.size ≤ k) := fun k e => by
        rcases ob9 with q | q
        · rw [q] at e
          exact ⟨fun e2 => hS0.sr (e2 ▸ e), hS0.sf k e, Or.inl e⟩
        · rw [q] at e
          cases e
          exact ⟨fun e2 => by have := D2.row.lt; simp at e2; omega, fun e2 => by have := (D2.fails.lt _ e2).2; simp at this, Or.inr (by simp)⟩
      have ofs : Off (· = r) w9 ((w9.setCell ⟨r, 1, none⟩ (.slice oa9 n9 cap9)).setCell ⟨r, 2, none⟩ (.slice none 0 0)) := (Off.of_setCell (F := (· = r)) _ _ _ rfl).trans (Off.of_setCell (F := (· = r)) _ _ _ rfl) (fun _ q => Or.inl q)
      have hall : ∀ q ∈ R'.sure ++ R'.pend, okW q := fun q hq => by
        rcases List.mem_append.1 hq with c | c
        · exact hS0.oks q c
        · exact hS0.okp q c
      have hbd : (R'.sure ++ R'.pend).length + 0 ≤ N := by rw [List.length_append]; exact hS0.bound
      have hD : RDAt ((w9.setCell ⟨r, 1, none⟩ (.slice oa9 n9 cap9)).setCell ⟨r, 2, none⟩ (.slice none 0 0)) r { R' with sure := R'.sure ++ R'.pend, pend := [] } (.slice oa9 n9 cap9) (.slice none 0 0) vf N :=
        ⟨q2, own_off own9 ofs (fun k e q => (hne k e).1 q), World.ownsRow_nil _ _ _ _, own_off f9 ofs (fun k e q => hS0.fr (q ▸ e)), (fun k e e2 => by cases e2), (fun k e => (hne k e).2.1), (fun k e => by cases e), (fun e => (hne r e).1 rfl), (fun e => by cases e), hS0.fr, hall, (fun q hq => by cases hq), hbd, hS0.big, hS0.fbig, hS0.opsn, hS0.fusew⟩
      have hO : Off (rfoot r (.slice oa0 n0 cap0) (.slice oa1 n1 cap1) vf) w ((w9.setCell ⟨r, 1, none⟩ (.slice oa9 n9 cap9)).setCell ⟨r, 2, none⟩ (.slice none 0 0)) :=
        (((o2.mono (fun j q => Or.inl (Or.inl q))).drew).trans og (fun j q => Or.inl (Or.inr (Or.inl q)))).trans ofs (fun j q => Or.inl (Or.inl q))
      have hFT : ∀ j, rfoot r (.slice oa9 n9 cap9) (.slice none 0 0) vf j → rfoot r (.slice oa0 n0 cap0) (.slice oa1 n1 cap1) vf j ∨ w.heap.size ≤ j := fun j q => by
        rcases q with q | q | q | q
        · exact Or.inl (Or.inl q)
        · rcases (hne j q).2.2 with c | c
          · exact Or.inl (Or.inr (Or.inl c))
          · exact Or.inr (Nat.le_trans o2.size c)
        · cases q
        · exact Or.inl (Or.inr (Or.inr (Or.inr q)))
      have HFIN : Hid _ := HRT.out _ _ _ HRR.out ⟨_, _, _, hD, hO, hFT⟩
      clear hD hO hFT ofs hne q2 own9 HRJ f9
      refine hK.out _ _ (fun _ => r9) ?_
      try simp only [Act.put, List.getElem_toArray, List.getElem_cons_zero, List.getElem_cons_succ, List.setIfInBounds_toArray, List.set_cons_zero, List.set_cons_succ]
      refine wpAnyL_ready (rs := [10]) (by kernel_rfl) (by simp) ?_
      refine AllReadyL.cons rfl (fun K hK => ?_) AllReadyL.nil
      go_simp
      refine hK.out _ _ (fun _ => r9) ?_
      try simp only [Act.put, List.getElem_toArray, List.getElem_cons_zero, List.getElem_cons_succ, List.setIfInBounds_toArray, List.set_cons_zero, List.set_cons_succ]
      have hS := r9
      refine wpAnyL_take (i := 11) (v := .pointer (some ⟨r, 1, none⟩)) rfl (by kernel_rfl) (by kernel_rfl) (by kernel_rfl) (by kernel_rfl) (fun _ _ _ h => h) (Or.inl ⟨by rfl, fun w _ => by go_simp⟩) hS ?_
      try simp only [Act.put, List.getElem_toArray, List.getElem_cons_zero, List.getElem_cons_succ, List.setIfInBounds_toArray, List.set_cons_zero, List.set_cons_succ]
      refine wpAnyL_ready (rs := [12]) (by kernel_rfl) (by simp) ?_
      refine AllReadyL.cons rfl (fun K hK => ?_) AllReadyL.nil
      go_simp
      refine hK.out _ _ (fun q => absurd rfl q) ?_
      try simp only [Act.put, List.getElem_toArray, List.getElem_cons_zero, List.getElem_cons_succ, List.setIfInBounds_toArray, List.set_cons_zero, List.set_cons_succ]
      refine wpAnyL_done (by kernel_rfl) ?_ _
      go_wp2_with fail
      try go_ret
      exact HFIN.out
    · rw [if_neg hE] at hr
      have hEq : (E == 0) = false := by simpa using hE
      have HRR : Hid _ := hr
      clear hr
      go_enter Try.func15, Try.ntmps15
      go_wp2_with (first
        | (go_at_call 32; refine hop.mono ?_; clear hop; rintro e w2 ⟨he, D2, o2⟩; obtain rfl := he))
      try go_ret
      exact HRT.out _ _ _ HRR.out (plain D2 o2)
end Go.Proofs.Ytkgmhliocfbdfaa
