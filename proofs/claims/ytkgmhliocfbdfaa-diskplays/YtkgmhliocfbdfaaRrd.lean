/-
  Proved here: what the document's disk tells of a block, and what reading makes of it.
-/
import Derived.Test.YtkgmhliocfbdfaaRat
namespace Go.Proofs.Ytkgmhliocfbdfaa
open Go.ChangeShapes Go.WideShapes Go.ChangeAt Go.RowKit
set_option linter.unusedVariables false
set_option linter.unusedSimpArgs false

theorem yields_build {P : Program} {ops : Array Oper} {S : World → Prop} {o : Oper} {a : Act} (hw : Region.wanted o (yielded ops a.tmps) = true) (t : TypeId) (parts : Array (Nat × Operand)) (ho : o.op = .build t parts)
    (vs : List (Nat × Value)) (hv : parts.toList.map (fun x => (x.1, a.eval x.2)) = vs) (cs : Array Value) (hb : P.built t vs = some cs) : YieldsIf P ops S o (.agg cs) a := by
  refine Or.inl ⟨hw, fun w hS => ?_⟩
  have e : (parts.map fun (i, x) => (i, a.eval x)).toList = vs := by rw [← hv, Array.toList_map]
  unfold execOp
  simp only [ho, Sem.run_bind, run_build w t _ cs (by rw [e]; exact hb), Result.andThen_ok, Sem.run_pure]
theorem built77 (oa0 oa1 : Option Addr) (n0 cap0 n1 cap1 : Nat) : (Try.prog.built 77 [(0, .slice oa0 n0 cap0), (1, .slice oa1 n1 cap1)]) = some #[.slice oa0 n0 cap0, .slice oa1 n1 cap1] := by kernel_rfl
theorem built34 : (Try.prog.built 34 []) = some (bs (zs 256)) := by kernel_rfl
/-- A block as it is seen, and as it lasts. -/
def RD.seen (R : RD) (b : Int) : List Int := (over (over noneS R.sure) R.pend).block b
def RD.kept (R : RD) (b : Int) : List Int := (over noneS R.sure).block b
theorem seen_len {R : RD} (h0 : ∀ q ∈ R.sure, okW q) (h1 : ∀ q ∈ R.pend, okW q) (b : Int) : (R.seen b).length = 256 := (blk_getD _ (fun j _ => over_get _ (over_get _ none_get _ h0) _ h1 b j) 4 (by omega)).1
theorem kept_len {R : RD} (h0 : ∀ q ∈ R.sure, okW q) (b : Int) : (R.kept b).length = 256 := (blk_getD _ (fun j _ => over_get _ none_get _ h0 b j) 4 (by omega)).1
set_option maxHeartbeats 1000000 in
set_option maxRecDepth 20000 in
theorem rseen_any {w : World} {r : Nat} {R : RD} {vs vp vf : Value} {N : Nat} (h : RDAt w r R vs vp vf N) (b : Int) :
    Calls Try.prog 23 #[.pointer (some ⟨r, 0, none⟩), .int .i64 b] w fun e w' => e = .returned (.agg (bs (R.seen b))) ∧ Below w.heap.size w w' := by
  have hz := zero34
  have hXl := seen_len h.oks h.okp b
  have HAT : Hid (∀ wx, RDAt wx r R vs vp vf N → Calls Try.prog 36 #[.agg #[vs, vp], .int .i64 b] wx fun e w' => e = .returned (.agg (bs (R.seen b))) ∧ Below wx.heap.size wx w') := fun wx hx => rat_any vs vp R.sure R.pend hx.sure hx.pend hx.oks hx.okp (by have := hx.bound; have := hx.big; omega) (by have := hx.bound; have := hx.big; omega) b
  obtain ⟨oa0, cap0, e0⟩ := own_form h.sure
  obtain ⟨oa1, cap1, e1⟩ := own_form h.pend
  obtain ⟨n0, Hn0⟩ : ∃ n, Hid (R.sure.length = n) := ⟨_, rfl⟩
  obtain ⟨n1, Hn1⟩ : ∃ n, Hid (R.pend.length = n) := ⟨_, rfl⟩
  rw [Hn0.out] at e0
  rw [Hn1.out] at e1
  subst e0 e1
  obtain ⟨X, HX⟩ : ∃ X, Hid (R.seen b = X) := ⟨_, rfl⟩
  rw [HX.out] at hXl HAT ⊢
  have a0 : Row (w.alloc (.cells (bs (zs 256)) 34)) w.heap.size (bs (zs 256)) 34 := Row.new _ _ _
  have ab : Below w.heap.size w (w.alloc (.cells (bs (zs 256)) 34)) := (Below.refl _ _).alloc (Nat.le_refl _) _
  have h0 := h.below ab
  go_enter Try.func23, Try.ntmps23
  go_upto_region 1 with fail
  generalize w.alloc (.cells (bs (zs 256)) 34) = w1 at a0 ab h0 ⊢
  refine wp_region_last (S := fun w' => RDAt w' r R (.slice oa0 n0 cap0) (.slice oa1 n1 cap1) vf N ∧ Row w' w.heap.size (bs (zs 256)) 34 ∧ Below w.heap.size w w') 11 (by kernel_rfl) ⟨h0.below (Below.refl _ _).drew, a0, ab.drew⟩ fun hS => ?_
  refine wpAnyL_take (i := 0) (v := .pointer (some ⟨r, 0, none⟩)) rfl (by kernel_rfl) (by kernel_rfl) (by kernel_rfl) (by kernel_rfl) (fun _ _ _ h => h) (Or.inl ⟨by rfl, fun w _ => by rfl⟩) hS ?_
  try simp only [Act.put, List.getElem_toArray, List.getElem_cons_zero, List.getElem_cons_succ, List.setIfInBounds_toArray, List.set_cons_zero, List.set_cons_succ]
  refine wpAnyL_take (i := 1) (v := .pointer (some ⟨r, 0, none⟩)) rfl (by kernel_rfl) (by kernel_rfl) (by kernel_rfl) (by kernel_rfl) (fun _ _ _ h => h) (Or.inl ⟨by rfl, fun w _ => by go_simp⟩) hS ?_
  try simp only [Act.put, List.getElem_toArray, List.getElem_cons_zero, List.getElem_cons_succ, List.setIfInBounds_toArray, List.set_cons_zero, List.set_cons_succ]
  refine wpAnyL_take (i := 2) (v := .pointer (some ⟨r, 1, none⟩)) rfl (by kernel_rfl) (by kernel_rfl) (by kernel_rfl) (by kernel_rfl) (fun _ _ _ h => h) (Or.inl ⟨by rfl, fun w _ => by go_simp⟩) hS ?_
  try simp only [Act.put, List.getElem_toArray, List.getElem_cons_zero, List.getElem_cons_succ, List.setIfInBounds_toArray, List.set_cons_zero, List.set_cons_succ]
  refine wpAnyL_take (i := 3) (v := .slice oa0 n0 cap0) rfl (by kernel_rfl) (by kernel_rfl) (by kernel_rfl) (by kernel_rfl) (fun _ _ _ h => h) (Or.inl ⟨by rfl, fun w h => by have c := row_at h.1.row 1 _ rfl; simp only [rdcells, List.getElem_toArray, List.getElem_cons_zero, List.getElem_cons_succ] at c; go_simp⟩) hS ?_
  try simp only [Act.put, List.getElem_toArray, List.getElem_cons_zero, List.getElem_cons_succ, List.setIfInBounds_toArray, List.set_cons_zero, List.set_cons_succ]
  refine wpAnyL_take (i := 4) (v := .pointer (some ⟨r, 0, none⟩)) rfl (by kernel_rfl) (by kernel_rfl) (by kernel_rfl) (by kernel_rfl) (fun _ _ _ h => h) (Or.inl ⟨by rfl, fun w _ => by rfl⟩) hS ?_
  try simp only [Act.put, List.getElem_toArray, List.getElem_cons_zero, List.getElem_cons_succ, List.setIfInBounds_toArray, List.set_cons_zero, List.set_cons_succ]
  refine wpAnyL_take (i := 5) (v := .pointer (some ⟨r, 0, none⟩)) rfl (by kernel_rfl) (by kernel_rfl) (by kernel_rfl) (by kernel_rfl) (fun _ _ _ h => h) (Or.inl ⟨by rfl, fun w _ => by go_simp⟩) hS ?_
  try simp only [Act.put, List.getElem_toArray, List.getElem_cons_zero, List.getElem_cons_succ, List.setIfInBounds_toArray, List.set_cons_zero, List.set_cons_succ]
  refine wpAnyL_take (i := 6) (v := .pointer (some ⟨r, 2, none⟩)) rfl (by kernel_rfl) (by kernel_rfl) (by kernel_rfl) (by kernel_rfl) (fun _ _ _ h => h) (Or.inl ⟨by rfl, fun w _ => by go_simp⟩) hS ?_
  try simp only [Act.put, List.getElem_toArray, List.getElem_cons_zero, List.getElem_cons_succ, List.setIfInBounds_toArray, List.set_cons_zero, List.set_cons_succ]
  refine wpAnyL_take (i := 7) (v := .slice oa1 n1 cap1) rfl (by kernel_rfl) (by kernel_rfl) (by kernel_rfl) (by kernel_rfl) (fun _ _ _ h => h) (Or.inl ⟨by rfl, fun w h => by have c := row_at h.1.row 2 _ rfl; simp only [rdcells, List.getElem_toArray, List.getElem_cons_zero, List.getElem_cons_succ] at c; go_simp⟩) hS ?_
  try simp only [Act.put, List.getElem_toArray, List.getElem_cons_zero, List.getElem_cons_succ, List.setIfInBounds_toArray, List.set_cons_zero, List.set_cons_succ]
  refine wpAnyL_take (i := 8) (v := .agg #[.slice oa0 n0 cap0, .slice oa1 n1 cap1]) rfl (by kernel_rfl) (by kernel_rfl) (by kernel_rfl) (by kernel_rfl) (fun _ _ _ h => h) (yields_build (by rfl) 77 #[(0, .tmp 8), (1, .tmp 12)] rfl [(0, .slice oa0 n0 cap0), (1, .slice oa1 n1 cap1)] (by rfl) _ (built77 _ _ _ _ _ _)) hS ?_
  try simp only [Act.put, List.getElem_toArray, List.getElem_cons_zero, List.getElem_cons_succ, List.setIfInBounds_toArray, List.set_cons_zero, List.set_cons_succ]
  refine wpAnyL_take (i := 9) (v := .int .i64 b) rfl (by kernel_rfl) (by kernel_rfl) (by kernel_rfl) (by kernel_rfl) (fun _ _ _ h => h) (Or.inl ⟨by rfl, fun w _ => by rfl⟩) hS ?_
  try simp only [Act.put, List.getElem_toArray, List.getElem_cons_zero, List.getElem_cons_succ, List.setIfInBounds_toArray, List.set_cons_zero, List.set_cons_succ]
  refine wpAnyL_ready (rs := [10]) (by kernel_rfl) (by simp) ?_
  refine AllReadyL.cons rfl (fun K hK => ?_) AllReadyL.nil
  go_simp
  go_at_call 36
  refine (HAT.out _ hS.1).mono ?_
  rintro e w5 ⟨he, b5⟩
  obtain rfl := he
  have hS5 : RDAt w5 r R (.slice oa0 n0 cap0) (.slice oa1 n1 cap1) vf N ∧ Row w5 w.heap.size (bs (zs 256)) 34 ∧ Below w.heap.size w w5 := ⟨hS.1.below b5, hS.2.1.below b5 hS.2.1.lt, hS.2.2.trans (b5.mono hS.2.2.size)⟩
  refine hK.out _ _ (fun _ => hS5) ?_
  try simp only [Act.put, List.getElem_toArray, List.getElem_cons_zero, List.getElem_cons_succ, List.setIfInBounds_toArray, List.set_cons_zero, List.set_cons_succ]
  refine wpAnyL_ready (rs := [11]) (by kernel_rfl) (by simp) ?_
  refine AllReadyL.cons rfl (fun K hK => step_store rfl 34 (.tmp 4) (.tmp 15) rfl w.heap.size X rfl rfl 34 _ hS5.2.1 256 size34 (by rw [bs_size, zs_length]) hXl (hK.out _ _ (fun q => absurd rfl q) ?_)) AllReadyL.nil
  try simp only [Act.put, List.getElem_toArray, List.getElem_cons_zero, List.getElem_cons_succ, List.setIfInBounds_toArray, List.set_cons_zero, List.set_cons_succ]
  refine wpAnyL_done (by kernel_rfl) ?_ _
  go_wp2_with fail
  refine bodyPost_ret (v := .agg (bs X)) ?_ rfl ⟨rfl, below_setRow hS5.2.2 (Nat.le_refl _) _⟩
  exact ret_row (fn := Try.f23) rfl _ _ w.heap.size 34 (bs X) 256 5 rfl (hS5.2.1.set _) Try.underlying34 size34 (by rw [bs_size, hXl])
set_option maxRecDepth 20000 in
theorem rkept_any {w : World} {r : Nat} {R : RD} {vs vp vf : Value} {N : Nat} (h : RDAt w r R vs vp vf N) (b : Int) :
    Calls Try.prog 25 #[.pointer (some ⟨r, 0, none⟩), .int .i64 b] w fun e w' => e = .returned (.agg (bs (R.kept b))) ∧ Below w.heap.size w w' := by
  have hz := zero34
  have hXl := kept_len h.oks b
  have HAT : Hid (∀ wx, RDAt wx r R vs vp vf N → Calls Try.prog 36 #[.agg #[vs, .slice none 0 0], .int .i64 b] wx fun e w' => e = .returned (.agg (bs (R.kept b))) ∧ Below wx.heap.size wx w') := fun wx hx => rat_any vs (.slice none 0 0) R.sure [] hx.sure (World.ownsRow_nil _ _ _ _) hx.oks (fun q hq => by cases hq) (by have := hx.bound; have := hx.big; omega) (by simp) b
  obtain ⟨oa0, cap0, e0⟩ := own_form h.sure
  obtain ⟨n0, Hn0⟩ : ∃ n, Hid (R.sure.length = n) := ⟨_, rfl⟩
  rw [Hn0.out] at e0
  subst e0
  obtain ⟨X, HX⟩ : ∃ X, Hid (R.kept b = X) := ⟨_, rfl⟩
  rw [HX.out] at hXl HAT ⊢
  have a0 : Row (w.alloc (.cells (bs (zs 256)) 34)) w.heap.size (bs (zs 256)) 34 := Row.new _ _ _
  have ab : Below w.heap.size w (w.alloc (.cells (bs (zs 256)) 34)) := (Below.refl _ _).alloc (Nat.le_refl _) _
  have h0 := h.below ab
  have c1 : (w.alloc (.cells (bs (zs 256)) 34)).cell? ⟨r, 1, none⟩ = some (.slice oa0 n0 cap0) := row_at h0.row 1 _ rfl
  have hat := HAT.out _ h0
  go_enter Try.func25, Try.ntmps25
  go_wp2_with (first
    | (go_at_call 36; refine hat.mono ?_; clear hat; rintro e w5 ⟨he, b5⟩; obtain rfl := he; have r5 := a0.below b5 a0.lt)
    | (refine store_row rfl 34 (.tmp 4) (.tmp 11) rfl w.heap.size X rfl rfl 34 _ r5 256 size34 (by rw [bs_size, zs_length]) hXl ?_))
  have B5 := ab.trans (b5.mono ab.size)
  refine bodyPost_ret (v := .agg (bs X)) ?_ rfl ⟨rfl, below_setRow B5 (Nat.le_refl _) _⟩
  exact ret_row (fn := Try.f25) rfl _ _ w.heap.size 34 (bs X) 256 5 rfl (r5.set _) Try.underlying34 size34 (by rw [bs_size, hXl])
/-- What reading answers, and makes. -/
def rread (R : RD) (b : Int) : List Int × Int × RD := if R.down then (zs 256, 4, R) else if b < 0 ∨ b ≥ R.n then (zs 256, 1, R) else if (rcount R).1 = 0 then ((rcount R).2.seen b, 0, (rcount R).2) else (zs 256, (rcount R).1, (rcount R).2)
theorem rcount_lists (R : RD) : (rcount R).2.sure = R.sure ∧ (rcount R).2.pend = R.pend ∧ (rcount R).2.n = R.n := by
  unfold rcount
  split
  · exact ⟨rfl, rfl, rfl⟩
  · split
    · exact ⟨rfl, rfl, rfl⟩
    · exact ⟨rfl, rfl, rfl⟩
def RRead (w : World) (r : Nat) (R : RD) (vs vp vf : Value) (N : Nat) (b : Int) (e : Ending) (w' : World) : Prop := e = .returned (.tuple #[.agg (bs (rread R b).1), .int .i64 (rread R b).2.1]) ∧ RDAt w' r (rread R b).2.2 vs vp vf N ∧ Off (· = r) w w'
set_option maxRecDepth 20000 in
theorem rread_any {w : World} {r : Nat} {R : RD} {vs vp vf : Value} {N : Nat} (h : RDAt w r R vs vp vf N) (ho : R.ops < 9223372036854775806) (b : Int) :
    Calls Try.prog 12 #[.pointer (some ⟨r, 0, none⟩), .int .i64 b] w fun e w' => RRead w r R vs vp vf N b e w' := by
  have hz := zero34
  obtain ⟨PP, HP⟩ : ∃ P : Ending → World → Prop, Hid (P = fun e w' => RRead w r R vs vp vf N b e w') := ⟨_, rfl⟩
  rw [show (fun e w' => RRead w r R vs vp vf N b e w') = PP from HP.out.symm]
  have a0 : Row (w.alloc (.cells (bs (zs 256)) 34)) w.heap.size (bs (zs 256)) 34 := Row.new _ _ _
  have ab : Below w.heap.size w (w.alloc (.cells (bs (zs 256)) 34)) := (Below.refl _ _).alloc (Nat.le_refl _) _
  have h0 := h.below ab
  have hrl := h.row.lt
  have c6 : (w.alloc (.cells (bs (zs 256)) 34)).cell? ⟨r, 6, none⟩ = some (.bool R.down) := row_at h0.row 6 _ rfl
  have c0 : (w.alloc (.cells (bs (zs 256)) 34)).cell? ⟨r, 0, none⟩ = some (.int .i64 R.n) := row_at h0.row 0 _ rfl
  have HRT : Hid (∀ (X : List Int) (E : Int) (R' : RD) (w' : World), rread R b = (X, E, R') → RDAt w' r R' vs vp vf N → Off (· = r) w w' → PP (.returned (.tuple #[.agg (bs X), .int .i64 E])) w') := fun X E R' w' q1 q2 q3 => by
    rw [HP.out]; unfold RRead; rw [q1]; exact ⟨rfl, q2, q3⟩
  have oset : ∀ w2 cs, Off (· = r) w w2 → Off (· = r) w (w2.setRow w.heap.size cs) := fun w2 cs q => q.trans (Off.of_setRow (F := (· = w.heap.size)) _ _ _ rfl) (fun j e => Or.inr (by omega))
  have hset : ∀ w2 cs R', RDAt w2 r R' vs vp vf N → (∀ j, rfoot r vs vp vf j → j < w.heap.size) → RDAt (w2.setRow w.heap.size cs) r R' vs vp vf N := fun w2 cs R' q hf => q.off (F := (· = w.heap.size)) (Off.of_setRow _ _ _ rfl) (fun k hk e => by have := hf k hk; omega)
  have HFT : Hid (∀ j, rfoot r vs vp vf j → j < w.heap.size) := fun j hj => h.lt hj
  have HOS : Hid _ := oset
  have HHS : Hid _ := hset
  clear HP oset hset
  by_cases hd : R.down = true
  · rw [hd] at c6
    have hr : rread R b = (zs 256, 4, R) := by unfold rread; rw [if_pos hd]
    have HRR : Hid _ := hr
    clear hr hd
    go_enter Try.func12, Try.ntmps12
    go_wp2_with (first
      | (refine build_none rfl 34 rfl (bs (zs 256)) built34 ?_)
      | (refine store_row rfl 34 (.tmp 4) (.tmp 11) rfl w.heap.size (zs 256) rfl rfl 34 _ a0 256 size34 (by rw [bs_size, zs_length]) (zs_length 256) ?_))
    refine bodyPost_ret (v := .tuple #[.agg (bs (zs 256)), .int .i64 4]) ?_ rfl (HRT.out _ _ _ _ HRR.out (HHS.out _ _ _ h0 HFT.out) (HOS.out _ _ (Off.of_below ab)))
    exact ret_two (fn := Try.f12) rfl _ _ w.heap.size 34 (bs (zs 256)) 256 5 (.int .i64 4) rfl rfl (a0.set _) Try.underlying34 size34 (by rw [bs_size, zs_length])
  · have hd' : R.down = false := by simpa using hd
    rw [hd'] at c6
    by_cases hb : b < 0
    · have hr : rread R b = (zs 256, 1, R) := by unfold rread; rw [if_neg hd, if_pos (Or.inl hb)]
      have HRR : Hid _ := hr
      clear hr hd hd'
      go_enter Try.func12, Try.ntmps12
      go_wp2_with (first
        | (refine build_none rfl 34 rfl (bs (zs 256)) built34 ?_)
        | (refine store_row rfl 34 (.tmp 4) (.tmp 22) rfl w.heap.size (zs 256) rfl rfl 34 _ a0 256 size34 (by rw [bs_size, zs_length]) (zs_length 256) ?_))
      refine bodyPost_ret (v := .tuple #[.agg (bs (zs 256)), .int .i64 1]) ?_ rfl (HRT.out _ _ _ _ HRR.out (HHS.out _ _ _ h0 HFT.out) (HOS.out _ _ (Off.of_below ab)))
      exact ret_two (fn := Try.f12) rfl _ _ w.heap.size 34 (bs (zs 256)) 256 5 (.int .i64 1) rfl rfl (a0.set _) Try.underlying34 size34 (by rw [bs_size, zs_length])
    by_cases hbn : b ≥ R.n
    · have hr : rread R b = (zs 256, 1, R) := by unfold rread; rw [if_neg hd, if_pos (Or.inr hbn)]
      have HRR : Hid _ := hr
      clear hr hd hd'
      go_enter Try.func12, Try.ntmps12
      go_wp2_with (first
        | (refine build_none rfl 34 rfl (bs (zs 256)) built34 ?_)
        | (refine store_row rfl 34 (.tmp 4) (.tmp 22) rfl w.heap.size (zs 256) rfl rfl 34 _ a0 256 size34 (by rw [bs_size, zs_length]) (zs_length 256) ?_))
      refine bodyPost_ret (v := .tuple #[.agg (bs (zs 256)), .int .i64 1]) ?_ rfl (HRT.out _ _ _ _ HRR.out (HHS.out _ _ _ h0 HFT.out) (HOS.out _ _ (Off.of_below ab)))
      exact ret_two (fn := Try.f12) rfl _ _ w.heap.size 34 (bs (zs 256)) 256 5 (.int .i64 1) rfl rfl (a0.set _) Try.underlying34 size34 (by rw [bs_size, zs_length])
    · have hr : rread R b = if (rcount R).1 = 0 then ((rcount R).2.seen b, 0, (rcount R).2) else (zs 256, (rcount R).1, (rcount R).2) := by unfold rread; rw [if_neg hd, if_neg (by omega)]
      have hop := rop_any h0 ho
      obtain ⟨l1, l2, l3⟩ := rcount_lists R
      have hXl := seen_len (R := (rcount R).2) (by rw [l1]; exact h.oks) (by rw [l2]; exact h.okp) b
      generalize rcount R = rc at hop hr hXl
      obtain ⟨E, R'⟩ := rc
      simp only at hop hr hXl
      have HSE : Hid (∀ wx, RDAt wx r R' vs vp vf N → Calls Try.prog 23 #[.pointer (some ⟨r, 0, none⟩), .int .i64 b] wx fun e w' => e = .returned (.agg (bs (R'.seen b))) ∧ Below wx.heap.size wx w') := fun wx hx => rseen_any hx b
      obtain ⟨X, HX⟩ : ∃ X, Hid (R'.seen b = X) := ⟨_, rfl⟩
      rw [HX.out] at hr hXl HSE
      clear hd hd' l1 l2 l3
      by_cases hE : E = 0
      · rw [if_pos hE] at hr
        subst hE
        have HRR : Hid _ := hr
        clear hr
        go_enter Try.func12, Try.ntmps12
        go_wp2_with (first
          | (go_at_call 32; refine hop.mono ?_; clear hop; rintro e w2 ⟨he, D2, o2⟩; obtain rfl := he; have hse := HSE.out _ D2; have r2 := a0.off o2 (by omega))
          | (go_at_call 23; refine hse.mono ?_; clear hse; rintro e w3 ⟨he, b3⟩; obtain rfl := he; have r3 := r2.below b3 r2.lt)
          | (refine store_row rfl 34 (.tmp 4) (.tmp 31) rfl w.heap.size X rfl rfl 34 _ r3 256 size34 (by rw [bs_size, zs_length]) hXl ?_))
        have o3 : Off (· = r) w w3 := ((Off.of_below (F := (· = r)) ab).trans o2 (fun _ q => Or.inl q)).trans (Off.of_below (F := fun _ => False) b3) (fun _ q => q.elim)
        refine bodyPost_ret (v := .tuple #[.agg (bs X), .int .i64 0]) ?_ rfl (HRT.out _ _ _ _ HRR.out (HHS.out _ _ _ (D2.below b3) HFT.out) (HOS.out _ _ o3))
        exact ret_two (fn := Try.f12) rfl _ _ w.heap.size 34 (bs X) 256 5 (.int .i64 0) rfl rfl (r3.set _) Try.underlying34 size34 (by rw [bs_size, hXl])
      · rw [if_neg hE] at hr
        have HRR : Hid _ := hr
        have hEq : (E == 0) = false := by simpa using hE
        clear hr
        go_enter Try.func12, Try.ntmps12
        go_wp2_with (first
          | (go_at_call 32; refine hop.mono ?_; clear hop; rintro e w2 ⟨he, D2, o2⟩; obtain rfl := he; have r2 := a0.off o2 (by omega))
          | (refine build_none rfl 34 rfl (bs (zs 256)) built34 ?_)
          | (refine store_row rfl 34 (.tmp 4) (.tmp 27) rfl w.heap.size (zs 256) rfl rfl 34 _ r2 256 size34 (by rw [bs_size, zs_length]) (zs_length 256) ?_))
        have o3 : Off (· = r) w w2 := (Off.of_below (F := (· = r)) ab).trans o2 (fun _ q => Or.inl q)
        refine bodyPost_ret (v := .tuple #[.agg (bs (zs 256)), .int .i64 E]) ?_ rfl (HRT.out _ _ _ _ HRR.out (HHS.out _ _ _ D2 HFT.out) (HOS.out _ _ o3))
        exact ret_two (fn := Try.f12) rfl _ _ w.heap.size 34 (bs (zs 256)) 256 5 (.int .i64 E) rfl rfl (r2.set _) Try.underlying34 size34 (by rw [bs_size, zs_length])
end Go.Proofs.Ytkgmhliocfbdfaa
