/-
  Proved here: what was packed of a master is told again, and unlike masters have unlike blocks (MasterBack).
-/
import Derived.Test.YtcbjjofckhohjaaMop
namespace Go.Proofs.Ytcbjjofckhohjaa.masterBack
open Go.ChangeShapes Go.WideShapes Go.ChangeAt Go.RowKit
open Go.Deep
set_option linter.unusedVariables false
set_option linter.unusedSimpArgs false

theorem own : ownKnob Try.prog.godebug = none := by kernel_rfl

set_option maxRecDepth 20000

set_option maxHeartbeats 4000000 in
theorem walk (w : World) (a b : M) (hfa : a.Fit) (hfb : b.Fit) :
    Calls Try.prog 4 #[.agg (mcells a), .agg (mcells b)] w fun e w' => e = .returned (.bool true) ∧ Below w.heap.size w w' := by
  have HA : Hid _ := awake_any
  have HPA : Hid _ := fun w => mpack_any a hfa w
  have HPB : Hid _ := fun w => mpack_any b hfb w
  obtain ⟨X, HX⟩ : ∃ x, Hid (packV a = x) := ⟨_, rfl⟩
  obtain ⟨Y, HY⟩ : ∃ x, Hid (packV b = x) := ⟨_, rfl⟩
  obtain ⟨E, HE⟩ : ∃ x, Hid (packE a = x) := ⟨_, rfl⟩
  obtain ⟨G, HG⟩ : ∃ x, Hid (packE b = x) := ⟨_, rfl⟩
  rw [HX.out, HE.out] at HPA
  rw [HY.out, HG.out] at HPB
  have HXL : Hid (X.length = 256) := by show _ = _; rw [← HX.out]; exact packV_length a
  have HYL : Hid (Y.length = 256) := by show _ = _; rw [← HY.out]; exact packV_length b
  have hXb : (bs X).size = 256 := by rw [bs_size, HXL.out]
  have hYb : (bs Y).size = 256 := by rw [bs_size, HYL.out]
  have hz := zero27
  have hz2 := zero29
  have r0 : Row ((w.alloc (.cells #[.int .u64 a.seq, .int .u32 a.ep, .int .u32 a.tail, .int .u64 a.lsn, .int .u32 a.last, .int .i64 a.pg, .int .i64 a.un, .int .i64 a.lg, .int .u32 a.mx] 27)).alloc (.cells #[.int .u64 b.seq, .int .u32 b.ep, .int .u32 b.tail, .int .u64 b.lsn, .int .u32 b.last, .int .i64 b.pg, .int .i64 b.un, .int .i64 b.lg, .int .u32 b.mx] 27)) w.heap.size #[.int .u64 a.seq, .int .u32 a.ep, .int .u32 a.tail, .int .u64 a.lsn, .int .u32 a.last, .int .i64 a.pg, .int .i64 a.un, .int .i64 a.lg, .int .u32 a.mx] 27 := (Row.new _ _ _).alloc _
  have r1 : Row ((w.alloc (.cells #[.int .u64 a.seq, .int .u32 a.ep, .int .u32 a.tail, .int .u64 a.lsn, .int .u32 a.last, .int .i64 a.pg, .int .i64 a.un, .int .i64 a.lg, .int .u32 a.mx] 27)).alloc (.cells #[.int .u64 b.seq, .int .u32 b.ep, .int .u32 b.tail, .int .u64 b.lsn, .int .u32 b.last, .int .i64 b.pg, .int .i64 b.un, .int .i64 b.lg, .int .u32 b.mx] 27)) (w.heap.size + 1) #[.int .u64 b.seq, .int .u32 b.ep, .int .u32 b.tail, .int .u64 b.lsn, .int .u32 b.last, .int .i64 b.pg, .int .i64 b.un, .int .i64 b.lg, .int .u32 b.mx] 27 := by have := Row.new (w.alloc (.cells #[.int .u64 a.seq, .int .u32 a.ep, .int .u32 a.tail, .int .u64 a.lsn, .int .u32 a.last, .int .i64 a.pg, .int .i64 a.un, .int .i64 a.lg, .int .u32 a.mx] 27)) #[.int .u64 b.seq, .int .u32 b.ep, .int .u32 b.tail, .int .u64 b.lsn, .int .u32 b.last, .int .i64 b.pg, .int .i64 b.un, .int .i64 b.lg, .int .u32 b.mx] 27; simpa using this
  have wb : Below w.heap.size w ((w.alloc (.cells #[.int .u64 a.seq, .int .u32 a.ep, .int .u32 a.tail, .int .u64 a.lsn, .int .u32 a.last, .int .i64 a.pg, .int .i64 a.un, .int .i64 a.lg, .int .u32 a.mx] 27)).alloc (.cells #[.int .u64 b.seq, .int .u32 b.ep, .int .u32 b.tail, .int .u64 b.lsn, .int .u32 b.last, .int .i64 b.pg, .int .i64 b.un, .int .i64 b.lg, .int .u32 b.mx] 27)) := ((Below.refl _ _).alloc (Nat.le_refl _) _).alloc (by simp) _
  go_enter Try.func4, Try.ntmps4
  go_upto_region 1 with fail
  generalize (w.alloc (.cells #[.int .u64 a.seq, .int .u32 a.ep, .int .u32 a.tail, .int .u64 a.lsn, .int .u32 a.last, .int .i64 a.pg, .int .i64 a.un, .int .i64 a.lg, .int .u32 a.mx] 27)).alloc (.cells #[.int .u64 b.seq, .int .u32 b.ep, .int .u32 b.tail, .int .u64 b.lsn, .int .u32 b.last, .int .i64 b.pg, .int .i64 b.un, .int .i64 b.lg, .int .u32 b.mx] 27) = w1 at r0 r1 wb ⊢
  go_upto_region 2 with (first
    | (refine load_cells rfl 27 (.tmp 2) rfl w.heap.size rfl 27 #[.int .u64 a.seq, .int .u32 a.ep, .int .u32 a.tail, .int .u64 a.lsn, .int .u32 a.last, .int .i64 a.pg, .int .i64 a.un, .int .i64 a.lg, .int .u32 a.mx] r0 9 Try.underlying27 rfl size27 rfl ?_)
    | (go_at_call 8; refine (HPA.out _).mono ?_; clear HPA; rintro ex w2 ⟨rfl, h2⟩
       have qx : Row (w2.alloc (.cells (bs (zs 256)) 29)) w2.heap.size (bs (zs 256)) 29 := Row.new _ _ _)
    | (refine store_row rfl 29 (.tmp 5) (.tmp 14) rfl w2.heap.size X rfl rfl 29 _ qx 256 size29 (by rw [bs_size, zs_length]) HXL.out ?_))
  have r0 := r0.below h2 r0.lt
  have r1 := r1.below h2 r1.lt
  have l2 := r1.lt
  have wb := wb.trans (h2.mono wb.size)
  have r0 := (r0.alloc (.cells (bs (zs 256)) 29)).other (g := w2.heap.size) (by omega) (bs X)
  have r1 := (r1.alloc (.cells (bs (zs 256)) 29)).other (g := w2.heap.size) (by omega) (bs X)
  have qx := qx.set (bs X)
  have wb := below_setRow (wb.alloc wb.size (.cells (bs (zs 256)) 29)) wb.size (bs X)
  clear h2
  generalize (w2.alloc (.cells (bs (zs 256)) 29)).setRow w2.heap.size (bs X) = w3 at r0 r1 qx wb ⊢
  generalize w2.heap.size = gx at qx l2 ⊢
  go_upto_region 3 with (first
    | (refine load_cells rfl 27 (.tmp 3) rfl (w.heap.size + 1) rfl 27 #[.int .u64 b.seq, .int .u32 b.ep, .int .u32 b.tail, .int .u64 b.lsn, .int .u32 b.last, .int .i64 b.pg, .int .i64 b.un, .int .i64 b.lg, .int .u32 b.mx] r1 9 Try.underlying27 rfl size27 rfl ?_)
    | (go_at_call 8; refine (HPB.out _).mono ?_; clear HPB; rintro ex w4 ⟨rfl, h4⟩
       have qy : Row (w4.alloc (.cells (bs (zs 256)) 29)) w4.heap.size (bs (zs 256)) 29 := Row.new _ _ _)
    | (refine store_row rfl 29 (.tmp 7) (.tmp 19) rfl w4.heap.size Y rfl rfl 29 _ qy 256 size29 (by rw [bs_size, zs_length]) HYL.out ?_))
  have r0 := r0.below h4 r0.lt
  have r1 := r1.below h4 r1.lt
  have qx := qx.below h4 qx.lt
  have l4 := qx.lt
  have wb := wb.trans (h4.mono wb.size)
  have r0 := (r0.alloc (.cells (bs (zs 256)) 29)).other (g := w4.heap.size) (by omega) (bs Y)
  have r1 := (r1.alloc (.cells (bs (zs 256)) 29)).other (g := w4.heap.size) (by omega) (bs Y)
  have qx := (qx.alloc (.cells (bs (zs 256)) 29)).other (g := w4.heap.size) (by omega) (bs Y)
  have qy := qy.set (bs Y)
  have wb := below_setRow (wb.alloc wb.size (.cells (bs (zs 256)) 29)) wb.size (bs Y)
  clear h4
  generalize (w4.alloc (.cells (bs (zs 256)) 29)).setRow w4.heap.size (bs Y) = w5 at r0 r1 qx qy wb ⊢
  generalize w4.heap.size = gy at qy l4 ⊢
  cases hma : mayM a
  · obtain rfl : E = 1 := by rw [← HE.out]; unfold packE; rw [hma]; rfl
    clear hma
    go_wp2_with (go_at_call 15; refine (HA.out _).mono ?_; clear HA; rintro ex w6 ⟨rfl, h6⟩)
    go_ret
    exact ⟨rfl, wb.trans (h6.mono wb.size)⟩
  · obtain rfl : E = 0 := by rw [← HE.out]; unfold packE; rw [hma]; rfl
    cases hmb : mayM b
    · obtain rfl : G = 1 := by rw [← HG.out]; unfold packE; rw [hmb]; rfl
      clear hma hmb
      go_wp2_with (go_at_call 15; refine (HA.out _).mono ?_; clear HA; rintro ex w6 ⟨rfl, h6⟩)
      go_ret
      exact ⟨rfl, wb.trans (h6.mono wb.size)⟩
    · obtain rfl : G = 0 := by rw [← HG.out]; unfold packE; rw [hmb]; rfl
      have hX : X = packB a := by rw [← HX.out]; unfold packV; rw [hma]; rfl
      have hY : Y = packB b := by rw [← HY.out]; unfold packV; rw [hmb]; rfl
      have HUP : Hid (∀ w, Calls Try.prog 10 #[.agg (bs X)] w fun ex w' => ex = .returned (.tuple #[.agg #[.int .u64 a.seq, .int .u32 a.ep, .int .u32 a.tail, .int .u64 a.lsn, .int .u32 a.last, .int .i64 a.pg, .int .i64 a.un, .int .i64 a.lg, .int .u32 a.mx], .bool true]) ∧ Below w.heap.size w w') := fun w => by
        have h := munpack_any X w HXL.out (by rw [hX]; exact packB_bytes a)
        rw [hX, gotM_packB a hfa hma, isM_packB a hfa hma] at h
        rw [hX]; exact h
      have HEA : Hid (∀ w, (Op.equalIn 10000 27 (.agg #[.int .u64 a.seq, .int .u32 a.ep, .int .u32 a.tail, .int .u64 a.lsn, .int .u32 a.last, .int .i64 a.pg, .int .i64 a.un, .int .i64 a.lg, .int .u32 a.mx]) (.agg #[.int .u64 a.seq, .int .u32 a.ep, .int .u32 a.tail, .int .u64 a.lsn, .int .u32 a.last, .int .i64 a.pg, .int .i64 a.un, .int .i64 a.lg, .int .u32 a.mx])).run Try.prog w = .ok true w) := fun w => by
        have := equal27 a a w
        rw [eqM_self] at this; exact this
      obtain ⟨c, hc⟩ : ∃ c, eqM a b = c := ⟨_, rfl⟩
      have HEB : Hid (∀ w, (Op.equalIn 10000 27 (.agg #[.int .u64 a.seq, .int .u32 a.ep, .int .u32 a.tail, .int .u64 a.lsn, .int .u32 a.last, .int .i64 a.pg, .int .i64 a.un, .int .i64 a.lg, .int .u32 a.mx]) (.agg #[.int .u64 b.seq, .int .u32 b.ep, .int .u32 b.tail, .int .u64 b.lsn, .int .u32 b.last, .int .i64 b.pg, .int .i64 b.un, .int .i64 b.lg, .int .u32 b.mx])).run Try.prog w = .ok c w) := fun w => by
        have := equal27 a b w
        rw [hc] at this; exact this
      have HEX : Hid (∀ w, (Op.equalIn 10000 29 (.agg (bs X)) (.agg (bs Y))).run Try.prog w = .ok c w) := fun w => by
        have h := equal29 X Y HXL.out HYL.out w
        rw [h]
        congr 1
        rw [← hc]
        by_cases e : a = b
        · rw [decide_eq_true (by rw [hX, hY, e]), e, eqM_self]
        · rw [decide_eq_false (fun q => e (packB_inj hfa hfb hma hmb (by rw [← hX, ← hY]; exact q)))]
          cases hq : eqM a b
          · rfl
          · exact absurd (eqM_true hq) e
      clear hma hmb hX hY hc HX HY HE HG hfa hfb
      go_upto_region 6 with (first
        | (refine load_row rfl 29 (.tmp 5) rfl gx rfl 29 (bs X) qx 256 5 Try.underlying29 size29 hXb ?_)
        | (go_at_call 10; refine (HUP.out _).mono ?_; clear HUP; rintro ex w6 ⟨rfl, h6⟩
           have qm : Row (w6.alloc (.cells #[.int .u64 0, .int .u32 0, .int .u32 0, .int .u64 0, .int .u32 0, .int .i64 0, .int .i64 0, .int .i64 0, .int .u32 0] 27)) w6.heap.size #[.int .u64 0, .int .u32 0, .int .u32 0, .int .u64 0, .int .u32 0, .int .i64 0, .int .i64 0, .int .i64 0, .int .u32 0] 27 := Row.new _ _ _)
        | (refine store_cells rfl 27 (.tmp 9) (.tmp 31) rfl w6.heap.size #[.int .u64 a.seq, .int .u32 a.ep, .int .u32 a.tail, .int .u64 a.lsn, .int .u32 a.last, .int .i64 a.pg, .int .i64 a.un, .int .i64 a.lg, .int .u32 a.mx] rfl rfl 27 _ qm 9 size27 rfl rfl (by simp [Value.oneCell']) ?_))
      have r0 := r0.below h6 r0.lt
      have r1 := r1.below h6 r1.lt
      have qx := qx.below h6 qx.lt
      have qy := qy.below h6 qy.lt
      have l6 := qy.lt
      have wb := wb.trans (h6.mono wb.size)
      have r0 := (r0.alloc (.cells #[.int .u64 0, .int .u32 0, .int .u32 0, .int .u64 0, .int .u32 0, .int .i64 0, .int .i64 0, .int .i64 0, .int .u32 0] 27)).other (g := w6.heap.size) (by omega) #[.int .u64 a.seq, .int .u32 a.ep, .int .u32 a.tail, .int .u64 a.lsn, .int .u32 a.last, .int .i64 a.pg, .int .i64 a.un, .int .i64 a.lg, .int .u32 a.mx]
      have r1 := (r1.alloc (.cells #[.int .u64 0, .int .u32 0, .int .u32 0, .int .u64 0, .int .u32 0, .int .i64 0, .int .i64 0, .int .i64 0, .int .u32 0] 27)).other (g := w6.heap.size) (by omega) #[.int .u64 a.seq, .int .u32 a.ep, .int .u32 a.tail, .int .u64 a.lsn, .int .u32 a.last, .int .i64 a.pg, .int .i64 a.un, .int .i64 a.lg, .int .u32 a.mx]
      have qx := (qx.alloc (.cells #[.int .u64 0, .int .u32 0, .int .u32 0, .int .u64 0, .int .u32 0, .int .i64 0, .int .i64 0, .int .i64 0, .int .u32 0] 27)).other (g := w6.heap.size) (by omega) #[.int .u64 a.seq, .int .u32 a.ep, .int .u32 a.tail, .int .u64 a.lsn, .int .u32 a.last, .int .i64 a.pg, .int .i64 a.un, .int .i64 a.lg, .int .u32 a.mx]
      have qy := (qy.alloc (.cells #[.int .u64 0, .int .u32 0, .int .u32 0, .int .u64 0, .int .u32 0, .int .i64 0, .int .i64 0, .int .i64 0, .int .u32 0] 27)).other (g := w6.heap.size) (by omega) #[.int .u64 a.seq, .int .u32 a.ep, .int .u32 a.tail, .int .u64 a.lsn, .int .u32 a.last, .int .i64 a.pg, .int .i64 a.un, .int .i64 a.lg, .int .u32 a.mx]
      have qm := qm.set #[.int .u64 a.seq, .int .u32 a.ep, .int .u32 a.tail, .int .u64 a.lsn, .int .u32 a.last, .int .i64 a.pg, .int .i64 a.un, .int .i64 a.lg, .int .u32 a.mx]
      have wb := below_setRow (wb.alloc wb.size (.cells #[.int .u64 0, .int .u32 0, .int .u32 0, .int .u64 0, .int .u32 0, .int .i64 0, .int .i64 0, .int .i64 0, .int .u32 0] 27)) wb.size #[.int .u64 a.seq, .int .u32 a.ep, .int .u32 a.tail, .int .u64 a.lsn, .int .u32 a.last, .int .i64 a.pg, .int .i64 a.un, .int .i64 a.lg, .int .u32 a.mx]
      clear h6
      show Code.wp _ _ _ _ ((w6.alloc (.cells #[.int .u64 0, .int .u32 0, .int .u32 0, .int .u64 0, .int .u32 0, .int .i64 0, .int .i64 0, .int .i64 0, .int .u32 0] 27)).setRow w6.heap.size #[.int .u64 a.seq, .int .u32 a.ep, .int .u32 a.tail, .int .u64 a.lsn, .int .u32 a.last, .int .i64 a.pg, .int .i64 a.un, .int .i64 a.lg, .int .u32 a.mx])
      generalize (w6.alloc (.cells #[.int .u64 0, .int .u32 0, .int .u32 0, .int .u64 0, .int .u32 0, .int .i64 0, .int .i64 0, .int .i64 0, .int .u32 0] 27)).setRow w6.heap.size #[.int .u64 a.seq, .int .u32 a.ep, .int .u32 a.tail, .int .u64 a.lsn, .int .u32 a.last, .int .i64 a.pg, .int .i64 a.un, .int .i64 a.lg, .int .u32 a.mx] = w7 at r0 r1 qx qy qm wb ⊢
      generalize w6.heap.size = gm at qm l6 ⊢
      refine wp_region_held_drew (S := fun w' => Row w' w.heap.size #[.int .u64 a.seq, .int .u32 a.ep, .int .u32 a.tail, .int .u64 a.lsn, .int .u32 a.last, .int .i64 a.pg, .int .i64 a.un, .int .i64 a.lg, .int .u32 a.mx] 27 ∧ Row w' (w.heap.size + 1) #[.int .u64 b.seq, .int .u32 b.ep, .int .u32 b.tail, .int .u64 b.lsn, .int .u32 b.last, .int .i64 b.pg, .int .i64 b.un, .int .i64 b.lg, .int .u32 b.mx] 27 ∧ Row w' gx (bs X) 29 ∧ Row w' gy (bs Y) 29 ∧ Row w' gm #[.int .u64 a.seq, .int .u32 a.ep, .int .u32 a.tail, .int .u64 a.lsn, .int .u32 a.last, .int .i64 a.pg, .int .i64 a.un, .int .i64 a.lg, .int .u32 a.mx] 27 ∧ Below w.heap.size w w') (by kernel_rfl) ⟨r0, r1, qx, qy, qm, wb.drew⟩ fun hS => ?_
      clear r0 r1 qx qy qm wb
      refine wpAnyH_take (i := 0) (v := .bool true) rfl (by kernel_rfl) (by kernel_rfl) (by kernel_rfl) (fun _ _ _ h => h) (Or.inl ⟨by rfl, fun w _ => by go_simp⟩) hS ?_
      try simp only [Act.put, List.getElem_toArray, List.getElem_cons_zero, List.getElem_cons_succ, List.setIfInBounds_toArray, List.set_cons_zero, List.set_cons_succ]
      refine wpAnyH_take (i := 1) (v := .bool true) rfl (by kernel_rfl) (by kernel_rfl) (by kernel_rfl) (fun _ _ _ h => h) (Or.inl ⟨by rfl, fun w _ => by go_simp⟩) hS ?_
      try simp only [Act.put, List.getElem_toArray, List.getElem_cons_zero, List.getElem_cons_succ, List.setIfInBounds_toArray, List.set_cons_zero, List.set_cons_succ]
      refine wpAnyH_take (i := 2) (v := .agg #[.int .u64 a.seq, .int .u32 a.ep, .int .u32 a.tail, .int .u64 a.lsn, .int .u32 a.last, .int .i64 a.pg, .int .i64 a.un, .int .i64 a.lg, .int .u32 a.mx]) rfl (by kernel_rfl) (by kernel_rfl) (by kernel_rfl) (fun _ _ _ h => h) (yields_cells (by rfl) 27 (.tmp 9) rfl gm rfl 27 #[.int .u64 a.seq, .int .u32 a.ep, .int .u32 a.tail, .int .u64 a.lsn, .int .u32 a.last, .int .i64 a.pg, .int .i64 a.un, .int .i64 a.lg, .int .u32 a.mx] (fun w h => h.2.2.2.2.1) 9 Try.underlying27 rfl size27 rfl) hS ?_
      try simp only [Act.put, List.getElem_toArray, List.getElem_cons_zero, List.getElem_cons_succ, List.setIfInBounds_toArray, List.set_cons_zero, List.set_cons_succ]
      refine wpAnyH_take (i := 3) (v := .agg #[.int .u64 a.seq, .int .u32 a.ep, .int .u32 a.tail, .int .u64 a.lsn, .int .u32 a.last, .int .i64 a.pg, .int .i64 a.un, .int .i64 a.lg, .int .u32 a.mx]) rfl (by kernel_rfl) (by kernel_rfl) (by kernel_rfl) (fun _ _ _ h => h) (yields_cells (by rfl) 27 (.tmp 2) rfl w.heap.size rfl 27 #[.int .u64 a.seq, .int .u32 a.ep, .int .u32 a.tail, .int .u64 a.lsn, .int .u32 a.last, .int .i64 a.pg, .int .i64 a.un, .int .i64 a.lg, .int .u32 a.mx] (fun w h => h.1) 9 Try.underlying27 rfl size27 rfl) hS ?_
      try simp only [Act.put, List.getElem_toArray, List.getElem_cons_zero, List.getElem_cons_succ, List.setIfInBounds_toArray, List.set_cons_zero, List.set_cons_succ]
      refine wpAnyH_take (i := 4) (v := .bool true) rfl (by kernel_rfl) (by kernel_rfl) (by kernel_rfl) (fun _ _ _ h => h) (yields_eq (by rfl) 27 27 (.tmp 35) (.tmp 36) rfl #[.int .u64 a.seq, .int .u32 a.ep, .int .u32 a.tail, .int .u64 a.lsn, .int .u32 a.last, .int .i64 a.pg, .int .i64 a.un, .int .i64 a.lg, .int .u32 a.mx] #[.int .u64 a.seq, .int .u32 a.ep, .int .u32 a.tail, .int .u64 a.lsn, .int .u32 a.last, .int .i64 a.pg, .int .i64 a.un, .int .i64 a.lg, .int .u32 a.mx] rfl rfl (by kernel_rfl) true HEA.out) hS ?_
      try simp only [Act.put, List.getElem_toArray, List.getElem_cons_zero, List.getElem_cons_succ, List.setIfInBounds_toArray, List.set_cons_zero, List.set_cons_succ]
      refine wpAnyH_take (i := 5) (v := .bool true) rfl (by kernel_rfl) (by kernel_rfl) (by kernel_rfl) (fun _ _ _ h => h) (Or.inl ⟨by rfl, fun w _ => by go_simp⟩) hS ?_
      try simp only [Act.put, List.getElem_toArray, List.getElem_cons_zero, List.getElem_cons_succ, List.setIfInBounds_toArray, List.set_cons_zero, List.set_cons_succ]
      refine wpAnyH_take (i := 6) (v := .bool true) rfl (by kernel_rfl) (by kernel_rfl) (by kernel_rfl) (fun _ _ _ h => h) (Or.inl ⟨by rfl, fun w _ => by go_simp⟩) hS ?_
      try simp only [Act.put, List.getElem_toArray, List.getElem_cons_zero, List.getElem_cons_succ, List.setIfInBounds_toArray, List.set_cons_zero, List.set_cons_succ]
      refine wpAnyH_take (i := 7) (v := .agg (bs X)) rfl (by kernel_rfl) (by kernel_rfl) (by kernel_rfl) (fun _ _ _ h => h) (yields_row (by rfl) 29 (.tmp 5) rfl gx rfl 29 (bs X) (fun w h => h.2.2.1) 256 5 Try.underlying29 size29 hXb) hS ?_
      try simp only [Act.put, List.getElem_toArray, List.getElem_cons_zero, List.getElem_cons_succ, List.setIfInBounds_toArray, List.set_cons_zero, List.set_cons_succ]
      refine wpAnyH_take (i := 8) (v := .agg (bs Y)) rfl (by kernel_rfl) (by kernel_rfl) (by kernel_rfl) (fun _ _ _ h => h) (yields_row (by rfl) 29 (.tmp 7) rfl gy rfl 29 (bs Y) (fun w h => h.2.2.2.1) 256 5 Try.underlying29 size29 hYb) hS ?_
      try simp only [Act.put, List.getElem_toArray, List.getElem_cons_zero, List.getElem_cons_succ, List.setIfInBounds_toArray, List.set_cons_zero, List.set_cons_succ]
      refine wpAnyH_take (i := 9) (v := .bool c) rfl (by kernel_rfl) (by kernel_rfl) (by kernel_rfl) (fun _ _ _ h => h) (yields_eq (by rfl) 29 29 (.tmp 40) (.tmp 41) rfl (bs X) (bs Y) rfl rfl (by kernel_rfl) c HEX.out) hS ?_
      try simp only [Act.put, List.getElem_toArray, List.getElem_cons_zero, List.getElem_cons_succ, List.setIfInBounds_toArray, List.set_cons_zero, List.set_cons_succ]
      refine wpAnyH_take (i := 10) (v := .agg #[.int .u64 a.seq, .int .u32 a.ep, .int .u32 a.tail, .int .u64 a.lsn, .int .u32 a.last, .int .i64 a.pg, .int .i64 a.un, .int .i64 a.lg, .int .u32 a.mx]) rfl (by kernel_rfl) (by kernel_rfl) (by kernel_rfl) (fun _ _ _ h => h) (yields_cells (by rfl) 27 (.tmp 2) rfl w.heap.size rfl 27 #[.int .u64 a.seq, .int .u32 a.ep, .int .u32 a.tail, .int .u64 a.lsn, .int .u32 a.last, .int .i64 a.pg, .int .i64 a.un, .int .i64 a.lg, .int .u32 a.mx] (fun w h => h.1) 9 Try.underlying27 rfl size27 rfl) hS ?_
      try simp only [Act.put, List.getElem_toArray, List.getElem_cons_zero, List.getElem_cons_succ, List.setIfInBounds_toArray, List.set_cons_zero, List.set_cons_succ]
      refine wpAnyH_take (i := 11) (v := .agg #[.int .u64 b.seq, .int .u32 b.ep, .int .u32 b.tail, .int .u64 b.lsn, .int .u32 b.last, .int .i64 b.pg, .int .i64 b.un, .int .i64 b.lg, .int .u32 b.mx]) rfl (by kernel_rfl) (by kernel_rfl) (by kernel_rfl) (fun _ _ _ h => h) (yields_cells (by rfl) 27 (.tmp 3) rfl (w.heap.size + 1) rfl 27 #[.int .u64 b.seq, .int .u32 b.ep, .int .u32 b.tail, .int .u64 b.lsn, .int .u32 b.last, .int .i64 b.pg, .int .i64 b.un, .int .i64 b.lg, .int .u32 b.mx] (fun w h => h.2.1) 9 Try.underlying27 rfl size27 rfl) hS ?_
      try simp only [Act.put, List.getElem_toArray, List.getElem_cons_zero, List.getElem_cons_succ, List.setIfInBounds_toArray, List.set_cons_zero, List.set_cons_succ]
      refine wpAnyH_take (i := 12) (v := .bool c) rfl (by kernel_rfl) (by kernel_rfl) (by kernel_rfl) (fun _ _ _ h => h) (yields_eq (by rfl) 27 27 (.tmp 43) (.tmp 44) rfl #[.int .u64 a.seq, .int .u32 a.ep, .int .u32 a.tail, .int .u64 a.lsn, .int .u32 a.last, .int .i64 a.pg, .int .i64 a.un, .int .i64 a.lg, .int .u32 a.mx] #[.int .u64 b.seq, .int .u32 b.ep, .int .u32 b.tail, .int .u64 b.lsn, .int .u32 b.last, .int .i64 b.pg, .int .i64 b.un, .int .i64 b.lg, .int .u32 b.mx] rfl rfl (by kernel_rfl) c HEB.out) hS ?_
      try simp only [Act.put, List.getElem_toArray, List.getElem_cons_zero, List.getElem_cons_succ, List.setIfInBounds_toArray, List.set_cons_zero, List.set_cons_succ]
      refine wpAnyH_take (i := 13) (v := .bool true) rfl (by kernel_rfl) (by kernel_rfl) (by kernel_rfl) (fun _ _ _ h => h) (Or.inl ⟨by rfl, fun w _ => by go_simp⟩) hS ?_
      try simp only [Act.put, List.getElem_toArray, List.getElem_cons_zero, List.getElem_cons_succ, List.setIfInBounds_toArray, List.set_cons_zero, List.set_cons_succ]
      refine wpAnyH_take (i := 14) (v := .bool true) rfl (by kernel_rfl) (by kernel_rfl) (by kernel_rfl) (fun _ _ _ h => h) (Or.inl ⟨by rfl, fun w _ => by go_simp⟩) hS ?_
      try simp only [Act.put, List.getElem_toArray, List.getElem_cons_zero, List.getElem_cons_succ, List.setIfInBounds_toArray, List.set_cons_zero, List.set_cons_succ]
      refine wpAnyH_take (i := 15) (v := .bool true) rfl (by kernel_rfl) (by kernel_rfl) (by kernel_rfl) (fun _ _ _ h => h) (Or.inl ⟨by rfl, fun w _ => by go_simp⟩) hS ?_
      try simp only [Act.put, List.getElem_toArray, List.getElem_cons_zero, List.getElem_cons_succ, List.setIfInBounds_toArray, List.set_cons_zero, List.set_cons_succ]
      refine wpAnyH_ready (rs := [16]) (by kernel_rfl) (by simp) ?_
      refine AllReadyH.cons rfl (fun K hK => ?_) AllReadyH.nil
      go_simp
      go_at_call 15
      refine Calls.mono (HA.out _) ?_
      rintro e wc ⟨rfl, hcb⟩
      refine hK.out _ _ (⟨hS.1.below hcb hS.1.lt, hS.2.1.below hcb hS.2.1.lt, hS.2.2.1.below hcb hS.2.2.1.lt, hS.2.2.2.1.below hcb hS.2.2.2.1.lt, hS.2.2.2.2.1.below hcb hS.2.2.2.2.1.lt, hS.2.2.2.2.2.trans (hcb.mono hS.2.2.2.2.2.size)⟩) fun hS => ?_
      try simp only [Act.put, List.getElem_toArray, List.getElem_cons_zero, List.getElem_cons_succ, List.setIfInBounds_toArray, List.set_cons_zero, List.set_cons_succ]
      clear hcb
      refine wpAnyH_take (i := 17) (v := .bool true) rfl (by kernel_rfl) (by kernel_rfl) (by kernel_rfl) (fun _ _ _ h => h) (Or.inl ⟨by rfl, fun w _ => by go_simp⟩) hS ?_
      try simp only [Act.put, List.getElem_toArray, List.getElem_cons_zero, List.getElem_cons_succ, List.setIfInBounds_toArray, List.set_cons_zero, List.set_cons_succ]
      refine wpAnyH_take (i := 18) (v := .bool true) rfl (by kernel_rfl) (by kernel_rfl) (by kernel_rfl) (fun _ _ _ h => h) (Or.inl ⟨by rfl, fun w _ => by go_simp⟩) hS ?_
      try simp only [Act.put, List.getElem_toArray, List.getElem_cons_zero, List.getElem_cons_succ, List.setIfInBounds_toArray, List.set_cons_zero, List.set_cons_succ]
      refine wpAnyH_done (by kernel_rfl) ?_ _
      go_wp2
      go_ret
      exact ⟨rfl, hS.2.2.2.2.2⟩

set_option maxRecDepth 100000 in
theorem lifted (os : Os) (started : os.Started) (H : Type) (enc : TypeId × Value → H) :
    ReturnsInHanded {} Try.checked os 4 .any (Rows.masterBackSpec.pre6 enc Try.prog Try.f4 Rows.masterBackRow.domain false) (Rows.masterBackSpec.post enc Try.prog Try.f4 false true false false) := by
  refine returnsInHanded_of_change_sized (C := Try.checked) own started (by kernel_rfl) Try.func4
    (ChangeSpec.witness6 (enc := enc) (C := Try.checked) false ⟨#[], #[.agg (mcells zm), .agg (mcells zm)], []⟩ 8 (by kernel_rfl) (by kernel_rfl) (by kernel_rfl) (by kernel_rfl)) ?_
  intro W base args ds gs before hval0 hW hcnd hsz0 _
  have hval : ∀ (j : Nat) t v, Try.f4.params[j]? = some t → args[j]? = some v → Value.okWide Try.prog W .any base t v := hval0
  have hW' := hW
  obtain ⟨p, q, hA0, hV, rfl, hfz, hnd⟩ := hW
  have hA : DataW.TrodAll enc Try.prog W 0 (fun _ => true) true Try.f4.params.toList args.toList ds p := hA0
  have hsz : (DataW.weightsEach Try.prog (Try.f4.params.toList ++ []) (ds ++ gs)).all (· ≤ reachBytes) = true := hsz0
  rw [Try.params4] at hA hval hsz
  obtain ⟨v0, vs0, d0, ds0, p0, q0, hargs, rfl, rfl, h0, r0⟩ := trodAll_cons hA
  obtain ⟨v1, vs1, d1, ds1, p1, q1, rfl, rfl, rfl, h1, r1⟩ := trodAll_cons r0
  obtain ⟨rfl, rfl, rfl⟩ := trodAll_nil r1
  obtain rfl : args = #[v0, v1] := by cases args; simp_all
  obtain ⟨rfl, rfl⟩ := trodVars_none hV
  simp only [List.append_nil] at hsz
  have hlt : ∀ x ∈ (p0 ++ (p1 ++ [])), x.block < W.heap.size := fun x hx => hW'.lt x (by simpa using hx)
  have hw0 : (d0.weights Try.prog 27).all (· ≤ reachBytes) = true := List.all_eq_true.2 fun m hm => List.all_eq_true.1 hsz m (by simp [DataW.weightsEach, hm])
  have hw1 : (d1.weights Try.prog 27).all (· ≤ reachBytes) = true := List.all_eq_true.2 fun m hm => List.all_eq_true.1 hsz m (by simp [DataW.weightsEach, hm])
  have k0 := h0
  have k1 := h1
  obtain ⟨a0, rfl, w0⟩ := open_masv (hval 0 27 v0 rfl rfl) h0
  obtain ⟨a1, rfl, w1⟩ := open_masv (hval 1 27 v1 rfl rfl) h1
  clear hA0 hval0
  simp only [List.append_nil] at hW'
  refine (walk W a0 a1 w0 w1).mono fun e W' ⟨he, hg⟩ => ?_
  subst he
  exact ⟨_, rfl, ⟨_, _, _, [], (p0 ++ (p1 ++ [])), [], hW', (trodAll_cons_mk (shut_bool Try.underlying4 _) trodAll_mk0), (trodAll_cons_mk (Below.trod laidOut (by kernel_rfl) (of_decide_eq_true (by kernel_rfl)) k0 hg (fun x hx => hlt x (by simp [hx]))) (trodAll_cons_mk (Below.trod laidOut (by kernel_rfl) (of_decide_eq_true (by kernel_rfl)) k1 hg (fun x hx => hlt x (by simp [hx]))) trodAll_mk0)), rfl,
    hg.frame _, fun h => by cases h⟩⟩

theorem over : Rows.masterBackRow.holds Try.pinned (OpenSpec.ofChange Rows.masterBackSpec) :=
  OpenClaim.holds_of_wide 4 Try.f4 rfl rfl rfl rfl rfl rfl rfl ⟨rfl, rfl, rfl, rfl, rfl⟩ rfl rfl rfl rfl rfl (by kernel_rfl) Try.func4 (by kernel_rfl)
    (of_decide_eq_true (by kernel_rfl)) (by unfold Func.isWrapper; first | (rw [if_pos (by decide +kernel)]; kernel_rfl) | (rw [if_neg (by decide +kernel)]; exact ⟨rfl, rfl⟩))
    (fun os started H enc _ => lifted os started H enc)

/-- The statement. -/
theorem proved : Rows.MasterBackSaid :=
  over
#print axioms proved
end Go.Proofs.Ytcbjjofckhohjaa.masterBack
