/-
  Proved: for every call of a disk (any kind, any number, any byte, any two lists) the Go function varvelaw05.DiskNone returns true and leaves its argument as it was; no condition.
-/
import Derived.Test.YtkgmhliocfbdfaaOpn
namespace Go.Proofs.Ytkgmhliocfbdfaa.diskNone
open Go.ChangeShapes Go.WideShapes Go.ChangeAt Go.RowKit
open Go.Deep
set_option linter.unusedVariables false
set_option linter.unusedSimpArgs false

theorem own : ownKnob Try.prog.godebug = none := by kernel_rfl

theorem do_nil (kd b y : Int) (fs ks : Value) (w : World) (hy : 0 ≤ y ∧ y ≤ 255) (zl : List Int) (hfs : Cel w fs (zl.map (.int .i64))) (hzl : zl.length * 8 ≤ 140737488355328)
    (bl : List Bool) (hks : Cel w ks (bl.map .bool)) (hbl : bl.length ≤ 140737488355328) (E : Int) (hE : E = if 0 ≤ kd ∧ kd < 3 then 4 else 0) :
    Calls Try.prog 11 #[.pointer none, .agg #[.int .i64 kd, .int .i64 b, .int .u8 y, fs, ks]] w fun e w' => e = .returned (.tuple #[.agg (bs (zs 256)), .int .i64 E]) ∧ Below w.heap.size w w' := by
  have hF : ∀ k, (fun _ : Nat => False) k → k < w.heap.size := fun _ q => q.elim
  have hT : ∀ (wa w' : World) (j : Nat), (fun _ _ => True) wa w' → w.heap.size ≤ j → j < wa.heap.size → ∀ cs, (fun _ => True) (World.setRow w' j cs) := fun _ _ _ _ _ _ _ => trivial
  have fin : ∀ (e : Ending) (w' : World), (e = .returned (.tuple #[.agg (bs (zs 256)), .int .i64 E]) ∧ Off (fun _ => False) w w' ∧ True) → (e = .returned (.tuple #[.agg (bs (zs 256)), .int .i64 E]) ∧ Below w.heap.size w w') := fun e w' h => ⟨h.1, off_none h.2.1⟩
  have lift : ∀ {wa : World} {e : Ending} {w' : World} {x : Value}, e = .returned x ∧ Below wa.heap.size wa w' → e = .returned x ∧ Off (fun _ => False) wa w' ∧ True := fun h => ⟨h.1, Off.of_below h.2, trivial⟩
  have lift' : ∀ {wa : World} {e : Ending} {w' : World} {x : Value}, e = .returned x ∧ w' = wa → e = .returned x ∧ Off (fun _ => False) wa w' ∧ True := fun h => ⟨h.1, by rw [h.2]; exact Off.refl _ _, trivial⟩
  by_cases k0 : kd = 0
  · subst k0
    obtain rfl : E = 4 := by simpa using hE
    exact (do_read _ b y fs ks w _ hF (fun _ _ => True) (fun _ => True) hT (zs 256) (zs_length 256) 4 (fun wa _ => (read_nil b wa).mono fun e w' h => lift h)).mono fin
  by_cases k1 : kd = 1
  · subst k1
    obtain rfl : E = 4 := by simpa using hE
    exact (do_write _ b y fs ks w _ hF (fun _ _ => True) (fun _ => True) hT 4 hy (fun wa _ => (write_nil b _ wa).mono fun e w' h => lift h)).mono fin
  by_cases k2 : kd = 2
  · subst k2
    obtain rfl : E = 4 := by simpa using hE
    exact (do_sync _ b y fs ks w _ hF (fun _ _ => True) (fun _ => True) hT 4 (fun wa _ => (sync_nil wa).mono fun e w' h => lift' h)).mono fin
  obtain rfl : E = 0 := by rw [hE, if_neg (by omega)]
  by_cases k3 : kd = 3
  · subst k3
    exact (do_plan _ b y fs ks w _ hF (fun _ _ => True) (fun _ => True) hT zl hfs hzl (fun wa k _ _ _ => (plan_nil k b wa).mono fun e w' h => lift' h)).mono fin
  by_cases k4 : kd = 4
  · subst k4
    exact (do_crash _ b y fs ks w _ hF (fun _ _ => True) (fun _ => True) hT bl hks hbl (fun wa k _ _ _ => (crash_nil k wa).mono fun e w' h => lift' h)).mono fin
  exact (do_other _ kd b y fs ks w _ hF (fun _ _ => True) (fun _ => True) hT (by omega) (fun _ _ => trivial)).mono fin

theorem range_op {w : World} {g : Nat} {v0 v1 v2 v3 v4 : Value} {t : TypeId} (h : Row w g #[v0, v1, v2, v3, v4] t) : w.rangeAt g 0 [v0, v1, v2, v3, v4] := by
  intro j v hv
  rw [cell_of_row w g _ _ _ _ h, Nat.zero_add]
  simpa using hv
theorem size33 : (Try.prog.info? 33).map (·.size) = some 5 := by kernel_rfl

set_option maxHeartbeats 1000000 in
theorem none_walk (kd b y : Int) (fs ks : Value) (w : World) (hk : Wf kd) (hb : Wf b) (hy : 0 ≤ y ∧ y ≤ 255) (zl : List Int) (hfs : Cel w fs (zl.map (.int .i64))) (hzl : zl.length * 8 ≤ 140737488355328)
    (bl : List Bool) (hks : Cel w ks (bl.map .bool)) (hbl : bl.length ≤ 140737488355328) :
    Calls Try.prog 8 #[.agg #[.int .i64 kd, .int .i64 b, .int .u8 y, fs, ks]] w fun e w' => e = .returned (.bool true) ∧ Below w.heap.size w w' := by
  have hz := zero35
  have r0 : Row (w.alloc (.cells #[.int .i64 kd, .int .i64 b, .int .u8 y, fs, ks] 33)) w.heap.size #[.int .i64 kd, .int .i64 b, .int .u8 y, fs, ks] 33 := Row.new _ _ _
  have ab : Below w.heap.size w (w.alloc (.cells #[.int .i64 kd, .int .i64 b, .int .u8 y, fs, ks] 33)) := (Below.refl _ _).alloc (Nat.le_refl _) _
  obtain ⟨E, hE⟩ : ∃ E : Int, E = if 0 ≤ kd ∧ kd < 3 then 4 else 0 := ⟨_, rfl⟩
  have hdo := do_nil kd b y fs ks (w.alloc (.cells #[.int .i64 kd, .int .i64 b, .int .u8 y, fs, ks] 33)) hy zl (hfs.keep ab) hzl bl (hks.keep ab) hbl E hE
  have he : ∀ w, (Op.equalIn 10000 35 (.agg (bs (zs 256))) (.agg (bs (zs 256)))).run Try.prog w = .ok true w := fun w => by rw [equal35 _ _ (zs_length 256) (zs_length 256) w]; simp
  have HE := show Hid _ from hE
  clear hE hfs hks
  by_cases h0 : 0 ≤ kd
  · by_cases h3 : kd < 3
    · obtain rfl : E = 4 := by rw [HE.out, if_pos ⟨h0, h3⟩]
      clear HE
      go_enter Try.func8, Try.ntmps8
      go_wp2_with (first
        | (refine wpList_load_mid rfl 33 (.tmp 1) rfl w.heap.size 0 rfl [.int .i64 kd, .int .i64 b, .int .u8 y, fs, ks] _ (range_op r0) Try.underlying33 rfl size33 ?_)
        | (go_at_call 11; refine hdo.mono ?_; rintro e w1 ⟨rfl, b1⟩
           have y0 : Row (w1.alloc (.cells (bs (zs 256)) 35)) w1.heap.size (bs (zs 256)) 35 := Row.new _ _ _
           have y1 : Row ((w1.alloc (.cells (bs (zs 256)) 35)).setRow w1.heap.size (bs (zs 256))) w1.heap.size (bs (zs 256)) 35 := y0.set _
           have q0 : Row ((w1.alloc (.cells (bs (zs 256)) 35)).setRow w1.heap.size (bs (zs 256))) w.heap.size #[.int .i64 kd, .int .i64 b, .int .u8 y, fs, ks] 33 := ((r0.below b1 r0.lt).alloc _).other (by have := (r0.below b1 r0.lt).lt; omega) _
           have B1 : Below w.heap.size w w1 := ab.trans (b1.mono ab.size)
           have B2 : Below w.heap.size w ((w1.alloc (.cells (bs (zs 256)) 35)).setRow w1.heap.size (bs (zs 256))) := below_setRow (B1.alloc B1.size _) B1.size _
           have c0 := row_at q0 0 (.int .i64 kd) rfl
           have c1 := row_at q0 1 (.int .i64 b) rfl)
        | (refine store_row rfl 35 (.tmp 4) (.tmp 10) rfl w1.heap.size (zs 256) rfl rfl 35 _ y0 256 size35 (by rw [bs_size, zs_length]) (zs_length 256) ?_)
        | (refine load_row rfl 35 (.tmp 4) rfl w1.heap.size rfl 35 (bs (zs 256)) y1 256 5 Try.underlying35 size35 (by rw [bs_size, zs_length]) ?_)
        | (refine build_none rfl 35 rfl (bs (zs 256)) built35 ?_)
        | (refine build_none_g rfl 35 rfl (bs (zs 256)) built35 ?_)
        | (go_at_call 18; refine (down_nil _).mono ?_; rintro e w2 ⟨rfl, rfl⟩)
        | (go_at_call 21; refine (size_nil _).mono ?_; rintro e w2 ⟨rfl, rfl⟩)
        | (go_at_call 19; refine (ops_nil _).mono ?_; rintro e w2 ⟨rfl, rfl⟩)
        | (go_at_call 20; refine (pending_nil _).mono ?_; rintro e w2 ⟨rfl, rfl⟩)
        | (go_at_call 22; refine (seen_nil b _).mono ?_; rintro e w3 ⟨rfl, b3⟩
           have B3 := B2.trans (b3.mono B2.size)
           have c13 := (b3.cell (p := ⟨w.heap.size, 1, none⟩) q0.lt).trans c1)
        | (go_at_call 24; refine (sure_nil b _).mono ?_; rintro e w4 ⟨rfl, b4⟩
           have B4 := B3.trans (b4.mono B3.size))
        | (go_at_call 10; refine (awake_any _).mono ?_; rintro e w5 ⟨rfl, b5⟩
           have B5 := B4.trans (b5.mono B4.size)))
      go_ret
      exact ⟨rfl, B5⟩
    · clear HE
      go_enter Try.func8, Try.ntmps8
      go_wp2_with (first
        | (refine wpList_load_mid rfl 33 (.tmp 1) rfl w.heap.size 0 rfl [.int .i64 kd, .int .i64 b, .int .u8 y, fs, ks] _ (range_op r0) Try.underlying33 rfl size33 ?_)
        | (go_at_call 11; refine hdo.mono ?_; rintro e w1 ⟨rfl, b1⟩
           have y0 : Row (w1.alloc (.cells (bs (zs 256)) 35)) w1.heap.size (bs (zs 256)) 35 := Row.new _ _ _
           have y1 : Row ((w1.alloc (.cells (bs (zs 256)) 35)).setRow w1.heap.size (bs (zs 256))) w1.heap.size (bs (zs 256)) 35 := y0.set _
           have q0 : Row ((w1.alloc (.cells (bs (zs 256)) 35)).setRow w1.heap.size (bs (zs 256))) w.heap.size #[.int .i64 kd, .int .i64 b, .int .u8 y, fs, ks] 33 := ((r0.below b1 r0.lt).alloc _).other (by have := (r0.below b1 r0.lt).lt; omega) _
           have B1 : Below w.heap.size w w1 := ab.trans (b1.mono ab.size)
           have B2 : Below w.heap.size w ((w1.alloc (.cells (bs (zs 256)) 35)).setRow w1.heap.size (bs (zs 256))) := below_setRow (B1.alloc B1.size _) B1.size _
           have c0 := row_at q0 0 (.int .i64 kd) rfl
           have c1 := row_at q0 1 (.int .i64 b) rfl)
        | (refine store_row rfl 35 (.tmp 4) (.tmp 10) rfl w1.heap.size (zs 256) rfl rfl 35 _ y0 256 size35 (by rw [bs_size, zs_length]) (zs_length 256) ?_)
        | (refine load_row rfl 35 (.tmp 4) rfl w1.heap.size rfl 35 (bs (zs 256)) y1 256 5 Try.underlying35 size35 (by rw [bs_size, zs_length]) ?_)
        | (refine build_none rfl 35 rfl (bs (zs 256)) built35 ?_)
        | (refine build_none_g rfl 35 rfl (bs (zs 256)) built35 ?_)
        | (go_at_call 18; refine (down_nil _).mono ?_; rintro e w2 ⟨rfl, rfl⟩)
        | (go_at_call 21; refine (size_nil _).mono ?_; rintro e w2 ⟨rfl, rfl⟩)
        | (go_at_call 19; refine (ops_nil _).mono ?_; rintro e w2 ⟨rfl, rfl⟩)
        | (go_at_call 20; refine (pending_nil _).mono ?_; rintro e w2 ⟨rfl, rfl⟩)
        | (go_at_call 22; refine (seen_nil b _).mono ?_; rintro e w3 ⟨rfl, b3⟩
           have B3 := B2.trans (b3.mono B2.size)
           have c13 := (b3.cell (p := ⟨w.heap.size, 1, none⟩) q0.lt).trans c1)
        | (go_at_call 24; refine (sure_nil b _).mono ?_; rintro e w4 ⟨rfl, b4⟩
           have B4 := B3.trans (b4.mono B3.size))
        | (go_at_call 10; refine (awake_any _).mono ?_; rintro e w5 ⟨rfl, b5⟩
           have B5 := B4.trans (b5.mono B4.size)))
      go_ret
      exact ⟨rfl, B5⟩
  · clear HE
    go_enter Try.func8, Try.ntmps8
    go_wp2_with (first
      | (refine wpList_load_mid rfl 33 (.tmp 1) rfl w.heap.size 0 rfl [.int .i64 kd, .int .i64 b, .int .u8 y, fs, ks] _ (range_op r0) Try.underlying33 rfl size33 ?_)
      | (go_at_call 11; refine hdo.mono ?_; rintro e w1 ⟨rfl, b1⟩
         have y0 : Row (w1.alloc (.cells (bs (zs 256)) 35)) w1.heap.size (bs (zs 256)) 35 := Row.new _ _ _
         have y1 : Row ((w1.alloc (.cells (bs (zs 256)) 35)).setRow w1.heap.size (bs (zs 256))) w1.heap.size (bs (zs 256)) 35 := y0.set _
         have q0 : Row ((w1.alloc (.cells (bs (zs 256)) 35)).setRow w1.heap.size (bs (zs 256))) w.heap.size #[.int .i64 kd, .int .i64 b, .int .u8 y, fs, ks] 33 := ((r0.below b1 r0.lt).alloc _).other (by have := (r0.below b1 r0.lt).lt; omega) _
         have B1 : Below w.heap.size w w1 := ab.trans (b1.mono ab.size)
         have B2 : Below w.heap.size w ((w1.alloc (.cells (bs (zs 256)) 35)).setRow w1.heap.size (bs (zs 256))) := below_setRow (B1.alloc B1.size _) B1.size _
         have c0 := row_at q0 0 (.int .i64 kd) rfl
         have c1 := row_at q0 1 (.int .i64 b) rfl)
      | (refine store_row rfl 35 (.tmp 4) (.tmp 10) rfl w1.heap.size (zs 256) rfl rfl 35 _ y0 256 size35 (by rw [bs_size, zs_length]) (zs_length 256) ?_)
      | (refine load_row rfl 35 (.tmp 4) rfl w1.heap.size rfl 35 (bs (zs 256)) y1 256 5 Try.underlying35 size35 (by rw [bs_size, zs_length]) ?_)
      | (refine build_none rfl 35 rfl (bs (zs 256)) built35 ?_)
      | (refine build_none_g rfl 35 rfl (bs (zs 256)) built35 ?_)
      | (go_at_call 18; refine (down_nil _).mono ?_; rintro e w2 ⟨rfl, rfl⟩)
      | (go_at_call 21; refine (size_nil _).mono ?_; rintro e w2 ⟨rfl, rfl⟩)
      | (go_at_call 19; refine (ops_nil _).mono ?_; rintro e w2 ⟨rfl, rfl⟩)
      | (go_at_call 20; refine (pending_nil _).mono ?_; rintro e w2 ⟨rfl, rfl⟩)
      | (go_at_call 22; refine (seen_nil b _).mono ?_; rintro e w3 ⟨rfl, b3⟩
         have B3 := B2.trans (b3.mono B2.size)
         have c13 := (b3.cell (p := ⟨w.heap.size, 1, none⟩) q0.lt).trans c1)
      | (go_at_call 24; refine (sure_nil b _).mono ?_; rintro e w4 ⟨rfl, b4⟩
         have B4 := B3.trans (b4.mono B3.size))
      | (go_at_call 10; refine (awake_any _).mono ?_; rintro e w5 ⟨rfl, b5⟩
         have B5 := B4.trans (b5.mono B4.size)))
    go_ret
    exact ⟨rfl, B5⟩
theorem walk (w : World) (c : Call) (ok : c.Ok w) :
    Calls Try.prog 8 #[.agg c.cells.toArray] w fun e w' => e = .returned (.bool true) ∧ Below w.heap.size w w' :=
  none_walk c.kd c.b c.y c.fs c.ks w ok.kd ok.b ok.y c.zl ok.fs ok.zl c.bl ok.ks ok.bl

set_option maxRecDepth 100000 in
theorem lifted (os : Os) (started : os.Started) (H : Type) (enc : TypeId × Value → H) :
    ReturnsInHanded {} Try.checked os 8 .any (Rows.diskNoneSpec.pre6 enc Try.prog Try.f8 Rows.diskNoneRow.domain false) (Rows.diskNoneSpec.post enc Try.prog Try.f8 false true false false) := by
  refine returnsInHanded_of_change_sized (C := Try.checked) own started (by kernel_rfl) Try.func8
    (ChangeSpec.witness6 (enc := enc) (C := Try.checked) false ⟨#[], #[.agg #[.int .i64 0, .int .i64 0, .int .u8 0, .slice none 0 0, .slice none 0 0]], []⟩ 8 (by kernel_rfl) (by kernel_rfl) (by kernel_rfl) (by kernel_rfl)) ?_
  intro W base args ds gs before hval0 hW hcnd hsz0 _
  have hval : ∀ (j : Nat) t v, Try.f8.params[j]? = some t → args[j]? = some v → Value.okWide Try.prog W .any base t v := hval0
  have hW' := hW
  obtain ⟨p, q, hA0, hV, rfl, hfz, hnd⟩ := hW
  have hA : DataW.TrodAll enc Try.prog W 0 (fun _ => true) true Try.f8.params.toList args.toList ds p := hA0
  have hsz : (DataW.weightsEach Try.prog (Try.f8.params.toList ++ []) (ds ++ gs)).all (· ≤ reachBytes) = true := hsz0
  rw [Try.params8] at hA hval hsz
  obtain ⟨v0, vs0, d0, ds0, p0, q0, hargs, rfl, rfl, h0, r0⟩ := trodAll_cons hA
  obtain ⟨rfl, rfl, rfl⟩ := trodAll_nil r0
  obtain rfl : args = #[v0] := by cases args; simp_all
  obtain ⟨rfl, rfl⟩ := trodVars_none hV
  simp only [List.append_nil] at hsz
  have hlt : ∀ x ∈ (p0 ++ []), x.block < W.heap.size := fun x hx => hW'.lt x (by simpa using hx)
  have hw0 : (d0.weights Try.prog 33).all (· ≤ reachBytes) = true := List.all_eq_true.2 fun m hm => List.all_eq_true.1 hsz m (by simp [DataW.weightsEach, hm])
  have k0 := h0
  obtain ⟨a0, rfl, w0⟩ := open_callv (hval 0 33 v0 rfl rfl) h0 hw0
  clear hA0 hval0
  simp only [List.append_nil] at hW'
  refine (walk W a0 w0).mono fun e W' ⟨he, hg⟩ => ?_
  subst he
  exact ⟨_, rfl, ⟨_, _, _, [], (p0 ++ []), [], hW', (trodAll_cons_mk (shut_bool Try.underlying4 _) trodAll_mk0), (trodAll_cons_mk (Below.trod laid (by kernel_rfl) (of_decide_eq_true (by kernel_rfl)) k0 hg (fun x hx => hlt x (by simp [hx]))) trodAll_mk0), rfl,
    hg.frame _, fun h => by cases h⟩⟩

theorem over : Rows.diskNoneRow.holds Try.pinned (OpenSpec.ofChange Rows.diskNoneSpec) :=
  OpenClaim.holds_of_wide 8 Try.f8 rfl rfl rfl rfl rfl rfl rfl ⟨rfl, rfl, rfl, rfl, rfl⟩ rfl rfl rfl rfl rfl (by kernel_rfl) Try.func8 (by kernel_rfl)
    (of_decide_eq_true (by kernel_rfl)) (by unfold Func.isWrapper; first | (rw [if_pos (by decide +kernel)]; kernel_rfl) | (rw [if_neg (by decide +kernel)]; exact ⟨rfl, rfl⟩))
    (fun os started H enc _ => lifted os started H enc)

/-- The statement. -/
theorem proved : Rows.DiskNoneSaid :=
  over
#print axioms proved
end Go.Proofs.Ytkgmhliocfbdfaa.diskNone
