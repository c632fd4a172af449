/-
  Proved here: a page in which some bits were turned, all within 32 side by side behind its sum, is none (PageTurned), for all pages, data pages, undo pages, places and bits.
-/
import Derived.Test.YtomlbkdagaldoaaTurn
namespace Go.Proofs.Ytomlbkdagaldoaa.pageTurned
open Go.ChangeShapes Go.WideShapes Go.ChangeAt Go.RowKit
open Go.Deep
set_option linter.unusedVariables false
set_option linter.unusedSimpArgs false

theorem own : ownKnob Try.prog.godebug = none := by kernel_rfl

set_option maxRecDepth 20000 in
set_option maxHeartbeats 8000000 in
theorem walk (w : World) (ub : Bool) (no : Int) (d : D) (lsn : Int) (c : Value) (os : List O) (a1 a2 : Int) (hno : 0 ≤ no ∧ no ≤ 65535) (hd : d.Ok) (hu : Und w lsn c os) (w1 : (Lit.int .i64 a1).wf = true) (w2 : (Lit.int .u32 a2).wf = true) :
    Calls Try.prog 7 #[.agg #[.bool ub, .int .u16 no], .agg d.arr, .agg #[.int .u64 lsn, c], .int .i64 a1, .int .u32 a2] w fun e w' => e = .returned (.bool true) ∧ Below w.heap.size w w' := by
  obtain ⟨r, rfl⟩ := u_of a2 (bounds_u32 w2)
  have b1 := bounds_i64 w1
  have hur := u_fits r
  have hz1 := zero32
  have HAW : Hid _ := fun w => awake_any w
  have HP1 : Hid _ := fun w => putData_any no d w hno hd
  have hlen := putD_length no d hd.len
  have HPD : Hid (putD no d = payT 1 no d.lsn (dataT d)) := rfl
  have HDL : Hid ((dataT d).length ≤ 209) := by show _ ≤ _; rw [dataT_length d hd.len]; omega
  have HDB : Hid _ := dataT_bytes d hd.bytes
  have hsA := D.arr_size d hd.len
  obtain ⟨ho, hf, hlsn, hn⟩ := hu
  have HKP : Hid _ := fun (w' : World) (hb : Below w.heap.size w w') => kept_big lsn c os w' (ho.keep hb) hn
  have HPU : Hid _ := fun v w (h : Olds w v os) => putUndo_any no lsn v os w h hf hno hlsn
  have hul := putU_length no lsn os
  have HER : Hid (errU os = if may os then 0 else 1) := rfl
  have HUM : Hid (may os = true → putU no lsn os = payT 2 no lsn (undoT os) ∧ (undoT os).length ≤ 209) := fun hm => ⟨putU_may _ _ _ hm, undoT_le os hm⟩
  generalize putU no lsn os = U at HPU hul HUM
  generalize hRR : putD no d = R at HP1 hlen HPD
  generalize d.arr = A at HP1 hsA ⊢
  obtain ⟨oa, cap, rfl, _⟩ := ho.open
  obtain ⟨n, HN⟩ : ∃ n, Hid (os.length = n) := ⟨_, rfl⟩
  rw [HN.out] at HKP ⊢
  have hRb : (bs R).size = 224 := by rw [bs_size, hlen]
  have hUb : (bs U).size = 224 := by rw [bs_size, hul]
  have HRL : Hid (R.length = 224) := hlen
  have HUL : Hid (U.length = 224) := hul
  clear ho hn hf hd hRR hlen hul w1 w2
  have r0 : Row (((w.alloc (.cells #[.bool ub, .int .u16 no] 59)).alloc (.cells A 30)).alloc (.cells #[.int .u64 lsn, .slice oa n cap] 44)) w.heap.size #[.bool ub, .int .u16 no] 59 := ((Row.new _ _ _).alloc _).alloc _
  have r1 : Row (((w.alloc (.cells #[.bool ub, .int .u16 no] 59)).alloc (.cells A 30)).alloc (.cells #[.int .u64 lsn, .slice oa n cap] 44)) (w.heap.size + 1) A 30 := by have := (Row.new (w.alloc (.cells #[.bool ub, .int .u16 no] 59)) A 30).alloc (.cells #[.int .u64 lsn, .slice oa n cap] 44); simpa using this
  have r2 : Row (((w.alloc (.cells #[.bool ub, .int .u16 no] 59)).alloc (.cells A 30)).alloc (.cells #[.int .u64 lsn, .slice oa n cap] 44)) (w.heap.size + 2) #[.int .u64 lsn, .slice oa n cap] 44 := by have := Row.new ((w.alloc (.cells #[.bool ub, .int .u16 no] 59)).alloc (.cells A 30)) #[.int .u64 lsn, .slice oa n cap] 44; simpa using this
  have ab : Below w.heap.size w (((w.alloc (.cells #[.bool ub, .int .u16 no] 59)).alloc (.cells A 30)).alloc (.cells #[.int .u64 lsn, .slice oa n cap] 44)) := (((Below.refl _ _).alloc (Nat.le_refl _) _).alloc (by simp) _).alloc (by simp; omega) _
  go_enter Try.func7, Try.ntmps7
  go_upto_region 1 with fail
  generalize ((w.alloc (.cells #[.bool ub, .int .u16 no] 59)).alloc (.cells A 30)).alloc (.cells #[.int .u64 lsn, .slice oa n cap] 44) = w1 at r0 r1 r2 ab ⊢
  by_cases h3 : u r = 0
  · have t3 : (u r == 0) = true := by simp [h3]
    clear h3
    go_wp2_with (go_at_call 15; refine (HAW.out _).mono ?_; clear HAW; rintro e w2 ⟨rfl, h2⟩)
    go_ret
    exact ⟨rfl, ab.trans (h2.mono ab.size)⟩
  · have t3 : (u r == 0) = false := by simp [h3]
    have HR0 : Hid (r ≠ 0#32) := fun q => h3 (by rw [q]; rfl)
    clear h3
    have c1 := row_at r0 1 _ rfl
    go_upto_region 4 with (first
      | (refine load_cells rfl 30 (.tmp 6) rfl (w.heap.size + 1) rfl 30 A r1 68 Try.underlying30 rfl size30 hsA ?_)
      | (go_at_call 11; refine (HP1.out _).mono ?_; clear HP1; rintro e w2 ⟨rfl, h2⟩
         have q1 : Row (w2.alloc (.cells (bs (zs 224)) 32)) w2.heap.size (bs (zs 224)) 32 := Row.new _ _ _)
      | (refine store_row rfl 32 (.tmp 11) (.tmp 22) rfl w2.heap.size R rfl rfl 32 _ q1 224 size32 (by rw [bs_size, zs_length]) HRL.out ?_))
    have r0 := r0.below h2 r0.lt
    have r2 := r2.below h2 r2.lt
    have l1 := r2.lt
    have ab := ab.trans (h2.mono ab.size)
    have r0 := (r0.alloc (.cells (bs (zs 224)) 32)).other (g := w2.heap.size) (by omega) (bs R)
    have r2 := (r2.alloc (.cells (bs (zs 224)) 32)).other (g := w2.heap.size) (by omega) (bs R)
    have q1 := q1.set (bs R)
    have ab := below_setRow (ab.alloc ab.size (.cells (bs (zs 224)) 32)) ab.size (bs R)
    clear h2 c1 r1 t3
    generalize (w2.alloc (.cells (bs (zs 224)) 32)).setRow w2.heap.size (bs R) = w3 at r0 r2 q1 ab ⊢
    generalize w2.heap.size = g1 at q1 l1 ⊢
    have c0 := row_at r0 0 _ rfl
    go_upto_if 24 with fail
    clear c0
    go_cut [12, 13] from 16 to 76 (fun a12 a13 wx => ∃ (k l : Int) (t : List Int), Hid (t.length ≤ 209) ∧ Hid (Bytes t) ∧ Row wx g1 (bs (payT k no l t)) 32 ∧ Row wx w.heap.size #[.bool ub, .int .u16 no] 59 ∧ Below w.heap.size w wx)
    case first =>
      cases ub
      · go_wp2
        go_meet
        exact ⟨1, d.lsn, dataT d, HDL.out, HDB.out, by rw [← HPD.out]; exact q1, r0, ab⟩
      · have HER2 : Hid _ := HER.out
        cases hm : may os
        · have e0 : errU os = 1 := by rw [HER.out, hm]; rfl
          rw [e0] at HPU
          clear hm HER HER2 HUM e0
          go_upto_region 5 with fail
          refine wp_region_held_drew (S := fun w' => Row w' w.heap.size #[.bool true, .int .u16 no] 59 ∧ Row w' (w.heap.size + 2) #[.int .u64 lsn, .slice oa n cap] 44 ∧ Below w.heap.size w w') (by kernel_rfl) ⟨r0, r2, ab.drew⟩ fun hS => ?_
          have q1 : Row w3.drew g1 (bs R) 32 := q1
          clear r0 r2 ab
          generalize w3.drew = wd at hS q1 ⊢
          refine wpAnyH_take (i := 0) (v := .pointer (some ⟨w.heap.size, 1, none⟩)) rfl (by kernel_rfl) (by kernel_rfl) (by kernel_rfl) (fun _ _ _ h => h) (Or.inl ⟨by rfl, fun w _ => by go_simp⟩) hS ?_
          try simp only [Act.put, List.getElem_toArray, List.getElem_cons_zero, List.getElem_cons_succ, List.setIfInBounds_toArray, List.set_cons_zero, List.set_cons_succ]
          refine wpAnyH_take (i := 1) (v := .int .u16 no) rfl (by kernel_rfl) (by kernel_rfl) (by kernel_rfl) (fun _ _ _ h => h) (Or.inl ⟨by rfl, fun w h => by have c := row_at h.1 1 _ rfl; go_simp⟩) hS ?_
          try simp only [Act.put, List.getElem_toArray, List.getElem_cons_zero, List.getElem_cons_succ, List.setIfInBounds_toArray, List.set_cons_zero, List.set_cons_succ]
          refine wpAnyH_take (i := 2) (v := .agg #[.int .u64 lsn, .slice oa n cap]) rfl (by kernel_rfl) (by kernel_rfl) (by kernel_rfl) (fun _ _ _ h => h) (yields_cells (by rfl) 44 (.tmp 7) rfl (w.heap.size + 2) rfl 44 #[.int .u64 lsn, .slice oa n cap] (fun w h => h.2.1) 2 Try.underlying44 rfl size44 rfl) hS ?_
          try simp only [Act.put, List.getElem_toArray, List.getElem_cons_zero, List.getElem_cons_succ, List.setIfInBounds_toArray, List.set_cons_zero, List.set_cons_succ]
          refine wpAnyH_ready (rs := [3, 8]) (by kernel_rfl) (by simp) ?_
          exact (AllReadyH.cons rfl (fun K hK => by
            go_simp
            go_at_call 17
            refine Calls.mono (HKP.out _ hS.2.2) ?_
            rintro e w1_3 ⟨vK, rfl, oK, hcb⟩
            obtain ⟨oaK, capK, rfl⟩ := oK.form
            have HK : Hid _ := HPU.out _ _ oK.olds
            have q1 := q1.below hcb q1.lt
            refine hK.out _ _ (⟨hS.1.below hcb hS.1.lt, hS.2.1.below hcb hS.2.1.lt, hS.2.2.trans (hcb.mono hS.2.2.size)⟩) fun hS => ?_
            try simp only [Act.put, List.getElem_toArray, List.getElem_cons_zero, List.getElem_cons_succ, List.setIfInBounds_toArray, List.set_cons_zero, List.set_cons_succ]
            clear hcb
            refine wpAnyH_ready (rs := [4, 8]) (by kernel_rfl) (by simp) ?_
            exact (AllReadyH.cons rfl (fun K hK => by
              go_simp
              go_at_call 16
              refine Calls.mono (HPU.out _ _ oK.olds) ?_
              rintro e w2_4 ⟨rfl, hcb⟩
              have q1 := q1.below hcb q1.lt
              refine hK.out _ _ (⟨hS.1.below hcb hS.1.lt, hS.2.1.below hcb hS.2.1.lt, hS.2.2.trans (hcb.mono hS.2.2.size)⟩) fun hS => ?_
              try simp only [Act.put, List.getElem_toArray, List.getElem_cons_zero, List.getElem_cons_succ, List.setIfInBounds_toArray, List.set_cons_zero, List.set_cons_succ]
              clear hcb
              refine wpAnyH_take (i := 5) (v := .tuple #[.agg (bs U), .int .i64 1]) rfl (by kernel_rfl) (by kernel_rfl) (by kernel_rfl) (fun _ _ _ h => h) (Or.inl ⟨by rfl, fun w _ => by go_simp⟩) hS ?_
              try simp only [Act.put, List.getElem_toArray, List.getElem_cons_zero, List.getElem_cons_succ, List.setIfInBounds_toArray, List.set_cons_zero, List.set_cons_succ]
              refine wpAnyH_take (i := 6) (v := .agg (bs U)) rfl (by kernel_rfl) (by kernel_rfl) (by kernel_rfl) (fun _ _ _ h => h) (Or.inl ⟨by rfl, fun w _ => by go_simp⟩) hS ?_
              try simp only [Act.put, List.getElem_toArray, List.getElem_cons_zero, List.getElem_cons_succ, List.setIfInBounds_toArray, List.set_cons_zero, List.set_cons_succ]
              refine wpAnyH_take (i := 7) (v := .int .i64 1) rfl (by kernel_rfl) (by kernel_rfl) (by kernel_rfl) (fun _ _ _ h => h) (Or.inl ⟨by rfl, fun w _ => by go_simp⟩) hS ?_
              try simp only [Act.put, List.getElem_toArray, List.getElem_cons_zero, List.getElem_cons_succ, List.setIfInBounds_toArray, List.set_cons_zero, List.set_cons_succ]
              refine wpAnyH_ready (rs := [8]) (by kernel_rfl) (by simp) ?_
              refine AllReadyH.cons rfl (fun K hK => ?_) AllReadyH.nil
              have ng2 := hS.2.2.size
              have ng2s0 := hS.1.lt
              have ng2s1 := hS.2.1.lt
              have ng2q1 := q1.lt
              have q2 : Row (w2_4.alloc (.cells (bs (zs 224)) 32)) w2_4.heap.size (bs (zs 224)) 32 := Row.new _ _ _
              have q1 := q1.alloc (.cells (bs (zs 224)) 32)
              have oK := oK.alloc (.cells (bs (zs 224)) 32)
              go_simp
              refine hK.out _ _ (⟨hS.1.alloc _, hS.2.1.alloc _, hS.2.2.alloc hS.2.2.size _⟩) fun hS => ?_
              try simp only [Act.put, List.getElem_toArray, List.getElem_cons_zero, List.getElem_cons_succ, List.setIfInBounds_toArray, List.set_cons_zero, List.set_cons_succ]
              generalize w2_4.alloc (.cells (bs (zs 224)) 32) = w3_8 at q2 q1 oK hS ⊢
              generalize w2_4.heap.size = g2 at q2 ng2 ng2s0 ng2s1 ng2q1 ⊢
              refine wpAnyH_ready (rs := [9]) (by kernel_rfl) (by simp) ?_
              refine AllReadyH.cons rfl (fun K hK => ?_) AllReadyH.nil
              refine step_cells rfl 32 (.tmp 12) (.tmp 31) rfl g2 (bs U) rfl rfl 32 _ q2 224 size32 (by rw [bs_size, zs_length]) hUb (bs_one _) (hK.out _ _ ⟨hS.1.other (by omega) _, hS.2.1.other (by omega) _, below_setRow hS.2.2 (by omega) _⟩ fun hS => ?_)
              try simp only [Act.put, List.getElem_toArray, List.getElem_cons_zero, List.getElem_cons_succ, List.setIfInBounds_toArray, List.set_cons_zero, List.set_cons_succ]
              have q1 := q1.other (g := g2) (by omega) (bs U)
              have q2 := q2.set (bs U)
              generalize w3_8.setRow g2 (bs U) = w4_9 at q1 q2 hS ⊢
              refine wpAnyH_take (i := 10) (v := .int .i64 1) rfl (by kernel_rfl) (by kernel_rfl) (by kernel_rfl) (fun _ _ _ h => h) (Or.inl ⟨by rfl, fun w _ => by go_simp⟩) hS ?_
              try simp only [Act.put, List.getElem_toArray, List.getElem_cons_zero, List.getElem_cons_succ, List.setIfInBounds_toArray, List.set_cons_zero, List.set_cons_succ]
              refine wpAnyH_done (by kernel_rfl) ?_ _
              go_wp2_with (go_at_call 15; refine (HAW.out _).mono ?_; clear HAW; rintro e w6 ⟨rfl, h6⟩)
              go_ret
              exact ⟨rfl, hS.2.2.trans (h6.mono hS.2.2.size)⟩
            ) (AllReadyH.cons rfl (fun K hK => by
              have ng2 := hS.2.2.size
              have ng2s0 := hS.1.lt
              have ng2s1 := hS.2.1.lt
              have ng2q1 := q1.lt
              have q2 : Row (w1_3.alloc (.cells (bs (zs 224)) 32)) w1_3.heap.size (bs (zs 224)) 32 := Row.new _ _ _
              have q1 := q1.alloc (.cells (bs (zs 224)) 32)
              have oK := oK.alloc (.cells (bs (zs 224)) 32)
              go_simp
              refine hK.out _ _ (⟨hS.1.alloc _, hS.2.1.alloc _, hS.2.2.alloc hS.2.2.size _⟩) fun hS => ?_
              try simp only [Act.put, List.getElem_toArray, List.getElem_cons_zero, List.getElem_cons_succ, List.setIfInBounds_toArray, List.set_cons_zero, List.set_cons_succ]
              generalize w1_3.alloc (.cells (bs (zs 224)) 32) = w2_8 at q2 q1 oK hS ⊢
              generalize w1_3.heap.size = g2 at q2 ng2 ng2s0 ng2s1 ng2q1 ⊢
              refine wpAnyH_ready (rs := [4]) (by kernel_rfl) (by simp) ?_
              refine AllReadyH.cons rfl (fun K hK => ?_) AllReadyH.nil
              go_simp
              go_at_call 16
              refine Calls.mono (HPU.out _ _ oK.olds) ?_
              rintro e w3_4 ⟨rfl, hcb⟩
              have q1 := q1.below hcb q1.lt
              have q2 := q2.below hcb q2.lt
              refine hK.out _ _ (⟨hS.1.below hcb hS.1.lt, hS.2.1.below hcb hS.2.1.lt, hS.2.2.trans (hcb.mono hS.2.2.size)⟩) fun hS => ?_
              try simp only [Act.put, List.getElem_toArray, List.getElem_cons_zero, List.getElem_cons_succ, List.setIfInBounds_toArray, List.set_cons_zero, List.set_cons_succ]
              clear hcb
              refine wpAnyH_take (i := 5) (v := .tuple #[.agg (bs U), .int .i64 1]) rfl (by kernel_rfl) (by kernel_rfl) (by kernel_rfl) (fun _ _ _ h => h) (Or.inl ⟨by rfl, fun w _ => by go_simp⟩) hS ?_
              try simp only [Act.put, List.getElem_toArray, List.getElem_cons_zero, List.getElem_cons_succ, List.setIfInBounds_toArray, List.set_cons_zero, List.set_cons_succ]
              refine wpAnyH_take (i := 6) (v := .agg (bs U)) rfl (by kernel_rfl) (by kernel_rfl) (by kernel_rfl) (fun _ _ _ h => h) (Or.inl ⟨by rfl, fun w _ => by go_simp⟩) hS ?_
              try simp only [Act.put, List.getElem_toArray, List.getElem_cons_zero, List.getElem_cons_succ, List.setIfInBounds_toArray, List.set_cons_zero, List.set_cons_succ]
              refine wpAnyH_take (i := 7) (v := .int .i64 1) rfl (by kernel_rfl) (by kernel_rfl) (by kernel_rfl) (fun _ _ _ h => h) (Or.inl ⟨by rfl, fun w _ => by go_simp⟩) hS ?_
              try simp only [Act.put, List.getElem_toArray, List.getElem_cons_zero, List.getElem_cons_succ, List.setIfInBounds_toArray, List.set_cons_zero, List.set_cons_succ]
              refine wpAnyH_ready (rs := [9]) (by kernel_rfl) (by simp) ?_
              refine AllReadyH.cons rfl (fun K hK => ?_) AllReadyH.nil
              refine step_cells rfl 32 (.tmp 12) (.tmp 31) rfl g2 (bs U) rfl rfl 32 _ q2 224 size32 (by rw [bs_size, zs_length]) hUb (bs_one _) (hK.out _ _ ⟨hS.1.other (by omega) _, hS.2.1.other (by omega) _, below_setRow hS.2.2 (by omega) _⟩ fun hS => ?_)
              try simp only [Act.put, List.getElem_toArray, List.getElem_cons_zero, List.getElem_cons_succ, List.setIfInBounds_toArray, List.set_cons_zero, List.set_cons_succ]
              have q1 := q1.other (g := g2) (by omega) (bs U)
              have q2 := q2.set (bs U)
              generalize w3_4.setRow g2 (bs U) = w4_9 at q1 q2 hS ⊢
              refine wpAnyH_take (i := 10) (v := .int .i64 1) rfl (by kernel_rfl) (by kernel_rfl) (by kernel_rfl) (fun _ _ _ h => h) (Or.inl ⟨by rfl, fun w _ => by go_simp⟩) hS ?_
              try simp only [Act.put, List.getElem_toArray, List.getElem_cons_zero, List.getElem_cons_succ, List.setIfInBounds_toArray, List.set_cons_zero, List.set_cons_succ]
              refine wpAnyH_done (by kernel_rfl) ?_ _
              go_wp2_with (go_at_call 15; refine (HAW.out _).mono ?_; clear HAW; rintro e w6 ⟨rfl, h6⟩)
              go_ret
              exact ⟨rfl, hS.2.2.trans (h6.mono hS.2.2.size)⟩
            ) AllReadyH.nil))
          ) (AllReadyH.cons rfl (fun K hK => by
            have ng2 := hS.2.2.size
            have ng2s0 := hS.1.lt
            have ng2s1 := hS.2.1.lt
            have ng2q1 := q1.lt
            have q2 : Row (wd.alloc (.cells (bs (zs 224)) 32)) wd.heap.size (bs (zs 224)) 32 := Row.new _ _ _
            have q1 := q1.alloc (.cells (bs (zs 224)) 32)
            go_simp
            refine hK.out _ _ (⟨hS.1.alloc _, hS.2.1.alloc _, hS.2.2.alloc hS.2.2.size _⟩) fun hS => ?_
            try simp only [Act.put, List.getElem_toArray, List.getElem_cons_zero, List.getElem_cons_succ, List.setIfInBounds_toArray, List.set_cons_zero, List.set_cons_succ]
            generalize wd.alloc (.cells (bs (zs 224)) 32) = w1_8 at q2 q1 hS ⊢
            generalize wd.heap.size = g2 at q2 ng2 ng2s0 ng2s1 ng2q1 ⊢
            refine wpAnyH_ready (rs := [3]) (by kernel_rfl) (by simp) ?_
            refine AllReadyH.cons rfl (fun K hK => ?_) AllReadyH.nil
            go_simp
            go_at_call 17
            refine Calls.mono (HKP.out _ hS.2.2) ?_
            rintro e w2_3 ⟨vK, rfl, oK, hcb⟩
            obtain ⟨oaK, capK, rfl⟩ := oK.form
            have HK : Hid _ := HPU.out _ _ oK.olds
            have q1 := q1.below hcb q1.lt
            have q2 := q2.below hcb q2.lt
            refine hK.out _ _ (⟨hS.1.below hcb hS.1.lt, hS.2.1.below hcb hS.2.1.lt, hS.2.2.trans (hcb.mono hS.2.2.size)⟩) fun hS => ?_
            try simp only [Act.put, List.getElem_toArray, List.getElem_cons_zero, List.getElem_cons_succ, List.setIfInBounds_toArray, List.set_cons_zero, List.set_cons_succ]
            clear hcb
            refine wpAnyH_ready (rs := [4]) (by kernel_rfl) (by simp) ?_
            refine AllReadyH.cons rfl (fun K hK => ?_) AllReadyH.nil
            go_simp
            go_at_call 16
            refine Calls.mono (HPU.out _ _ oK.olds) ?_
            rintro e w3_4 ⟨rfl, hcb⟩
            have q1 := q1.below hcb q1.lt
            have q2 := q2.below hcb q2.lt
            refine hK.out _ _ (⟨hS.1.below hcb hS.1.lt, hS.2.1.below hcb hS.2.1.lt, hS.2.2.trans (hcb.mono hS.2.2.size)⟩) fun hS => ?_
            try simp only [Act.put, List.getElem_toArray, List.getElem_cons_zero, List.getElem_cons_succ, List.setIfInBounds_toArray, List.set_cons_zero, List.set_cons_succ]
            clear hcb
            refine wpAnyH_take (i := 5) (v := .tuple #[.agg (bs U), .int .i64 1]) rfl (by kernel_rfl) (by kernel_rfl) (by kernel_rfl) (fun _ _ _ h => h) (Or.inl ⟨by rfl, fun w _ => by go_simp⟩) hS ?_
            try simp only [Act.put, List.getElem_toArray, List.getElem_cons_zero, List.getElem_cons_succ, List.setIfInBounds_toArray, List.set_cons_zero, List.set_cons_succ]
            refine wpAnyH_take (i := 6) (v := .agg (bs U)) rfl (by kernel_rfl) (by kernel_rfl) (by kernel_rfl) (fun _ _ _ h => h) (Or.inl ⟨by rfl, fun w _ => by go_simp⟩) hS ?_
            try simp only [Act.put, List.getElem_toArray, List.getElem_cons_zero, List.getElem_cons_succ, List.setIfInBounds_toArray, List.set_cons_zero, List.set_cons_succ]
            refine wpAnyH_take (i := 7) (v := .int .i64 1) rfl (by kernel_rfl) (by kernel_rfl) (by kernel_rfl) (fun _ _ _ h => h) (Or.inl ⟨by rfl, fun w _ => by go_simp⟩) hS ?_
            try simp only [Act.put, List.getElem_toArray, List.getElem_cons_zero, List.getElem_cons_succ, List.setIfInBounds_toArray, List.set_cons_zero, List.set_cons_succ]
            refine wpAnyH_ready (rs := [9]) (by kernel_rfl) (by simp) ?_
            refine AllReadyH.cons rfl (fun K hK => ?_) AllReadyH.nil
            refine step_cells rfl 32 (.tmp 12) (.tmp 31) rfl g2 (bs U) rfl rfl 32 _ q2 224 size32 (by rw [bs_size, zs_length]) hUb (bs_one _) (hK.out _ _ ⟨hS.1.other (by omega) _, hS.2.1.other (by omega) _, below_setRow hS.2.2 (by omega) _⟩ fun hS => ?_)
            try simp only [Act.put, List.getElem_toArray, List.getElem_cons_zero, List.getElem_cons_succ, List.setIfInBounds_toArray, List.set_cons_zero, List.set_cons_succ]
            have q1 := q1.other (g := g2) (by omega) (bs U)
            have q2 := q2.set (bs U)
            generalize w3_4.setRow g2 (bs U) = w4_9 at q1 q2 hS ⊢
            refine wpAnyH_take (i := 10) (v := .int .i64 1) rfl (by kernel_rfl) (by kernel_rfl) (by kernel_rfl) (fun _ _ _ h => h) (Or.inl ⟨by rfl, fun w _ => by go_simp⟩) hS ?_
            try simp only [Act.put, List.getElem_toArray, List.getElem_cons_zero, List.getElem_cons_succ, List.setIfInBounds_toArray, List.set_cons_zero, List.set_cons_succ]
            refine wpAnyH_done (by kernel_rfl) ?_ _
            go_wp2_with (go_at_call 15; refine (HAW.out _).mono ?_; clear HAW; rintro e w6 ⟨rfl, h6⟩)
            go_ret
            exact ⟨rfl, hS.2.2.trans (h6.mono hS.2.2.size)⟩
          ) AllReadyH.nil))
        · have e0 : errU os = 0 := by rw [HER.out, hm]; rfl
          rw [e0] at HPU
          obtain ⟨hU1, hU2⟩ := HUM.out hm
          have HU1 : Hid _ := hU1
          have HU2 : Hid _ := hU2
          clear hm HER HER2 HUM e0 hU1 hU2
          go_upto_region 5 with fail
          refine wp_region_held_drew (S := fun w' => Row w' w.heap.size #[.bool true, .int .u16 no] 59 ∧ Row w' (w.heap.size + 2) #[.int .u64 lsn, .slice oa n cap] 44 ∧ Below w.heap.size w w') (by kernel_rfl) ⟨r0, r2, ab.drew⟩ fun hS => ?_
          have q1 : Row w3.drew g1 (bs R) 32 := q1
          clear r0 r2 ab
          generalize w3.drew = wd at hS q1 ⊢
          refine wpAnyH_take (i := 0) (v := .pointer (some ⟨w.heap.size, 1, none⟩)) rfl (by kernel_rfl) (by kernel_rfl) (by kernel_rfl) (fun _ _ _ h => h) (Or.inl ⟨by rfl, fun w _ => by go_simp⟩) hS ?_
          try simp only [Act.put, List.getElem_toArray, List.getElem_cons_zero, List.getElem_cons_succ, List.setIfInBounds_toArray, List.set_cons_zero, List.set_cons_succ]
          refine wpAnyH_take (i := 1) (v := .int .u16 no) rfl (by kernel_rfl) (by kernel_rfl) (by kernel_rfl) (fun _ _ _ h => h) (Or.inl ⟨by rfl, fun w h => by have c := row_at h.1 1 _ rfl; go_simp⟩) hS ?_
          try simp only [Act.put, List.getElem_toArray, List.getElem_cons_zero, List.getElem_cons_succ, List.setIfInBounds_toArray, List.set_cons_zero, List.set_cons_succ]
          refine wpAnyH_take (i := 2) (v := .agg #[.int .u64 lsn, .slice oa n cap]) rfl (by kernel_rfl) (by kernel_rfl) (by kernel_rfl) (fun _ _ _ h => h) (yields_cells (by rfl) 44 (.tmp 7) rfl (w.heap.size + 2) rfl 44 #[.int .u64 lsn, .slice oa n cap] (fun w h => h.2.1) 2 Try.underlying44 rfl size44 rfl) hS ?_
          try simp only [Act.put, List.getElem_toArray, List.getElem_cons_zero, List.getElem_cons_succ, List.setIfInBounds_toArray, List.set_cons_zero, List.set_cons_succ]
          refine wpAnyH_ready (rs := [3, 8]) (by kernel_rfl) (by simp) ?_
          exact (AllReadyH.cons rfl (fun K hK => by
            go_simp
            go_at_call 17
            refine Calls.mono (HKP.out _ hS.2.2) ?_
            rintro e w1_3 ⟨vK, rfl, oK, hcb⟩
            obtain ⟨oaK, capK, rfl⟩ := oK.form
            have HK : Hid _ := HPU.out _ _ oK.olds
            have q1 := q1.below hcb q1.lt
            refine hK.out _ _ (⟨hS.1.below hcb hS.1.lt, hS.2.1.below hcb hS.2.1.lt, hS.2.2.trans (hcb.mono hS.2.2.size)⟩) fun hS => ?_
            try simp only [Act.put, List.getElem_toArray, List.getElem_cons_zero, List.getElem_cons_succ, List.setIfInBounds_toArray, List.set_cons_zero, List.set_cons_succ]
            clear hcb
            refine wpAnyH_ready (rs := [4, 8]) (by kernel_rfl) (by simp) ?_
            exact (AllReadyH.cons rfl (fun K hK => by
              go_simp
              go_at_call 16
              refine Calls.mono (HPU.out _ _ oK.olds) ?_
              rintro e w2_4 ⟨rfl, hcb⟩
              have q1 := q1.below hcb q1.lt
              refine hK.out _ _ (⟨hS.1.below hcb hS.1.lt, hS.2.1.below hcb hS.2.1.lt, hS.2.2.trans (hcb.mono hS.2.2.size)⟩) fun hS => ?_
              try simp only [Act.put, List.getElem_toArray, List.getElem_cons_zero, List.getElem_cons_succ, List.setIfInBounds_toArray, List.set_cons_zero, List.set_cons_succ]
              clear hcb
              refine wpAnyH_take (i := 5) (v := .tuple #[.agg (bs U), .int .i64 0]) rfl (by kernel_rfl) (by kernel_rfl) (by kernel_rfl) (fun _ _ _ h => h) (Or.inl ⟨by rfl, fun w _ => by go_simp⟩) hS ?_
              try simp only [Act.put, List.getElem_toArray, List.getElem_cons_zero, List.getElem_cons_succ, List.setIfInBounds_toArray, List.set_cons_zero, List.set_cons_succ]
              refine wpAnyH_take (i := 6) (v := .agg (bs U)) rfl (by kernel_rfl) (by kernel_rfl) (by kernel_rfl) (fun _ _ _ h => h) (Or.inl ⟨by rfl, fun w _ => by go_simp⟩) hS ?_
              try simp only [Act.put, List.getElem_toArray, List.getElem_cons_zero, List.getElem_cons_succ, List.setIfInBounds_toArray, List.set_cons_zero, List.set_cons_succ]
              refine wpAnyH_take (i := 7) (v := .int .i64 0) rfl (by kernel_rfl) (by kernel_rfl) (by kernel_rfl) (fun _ _ _ h => h) (Or.inl ⟨by rfl, fun w _ => by go_simp⟩) hS ?_
              try simp only [Act.put, List.getElem_toArray, List.getElem_cons_zero, List.getElem_cons_succ, List.setIfInBounds_toArray, List.set_cons_zero, List.set_cons_succ]
              refine wpAnyH_ready (rs := [8]) (by kernel_rfl) (by simp) ?_
              refine AllReadyH.cons rfl (fun K hK => ?_) AllReadyH.nil
              have ng2 := hS.2.2.size
              have ng2s0 := hS.1.lt
              have ng2s1 := hS.2.1.lt
              have ng2q1 := q1.lt
              have q2 : Row (w2_4.alloc (.cells (bs (zs 224)) 32)) w2_4.heap.size (bs (zs 224)) 32 := Row.new _ _ _
              have q1 := q1.alloc (.cells (bs (zs 224)) 32)
              have oK := oK.alloc (.cells (bs (zs 224)) 32)
              go_simp
              refine hK.out _ _ (⟨hS.1.alloc _, hS.2.1.alloc _, hS.2.2.alloc hS.2.2.size _⟩) fun hS => ?_
              try simp only [Act.put, List.getElem_toArray, List.getElem_cons_zero, List.getElem_cons_succ, List.setIfInBounds_toArray, List.set_cons_zero, List.set_cons_succ]
              generalize w2_4.alloc (.cells (bs (zs 224)) 32) = w3_8 at q2 q1 oK hS ⊢
              generalize w2_4.heap.size = g2 at q2 ng2 ng2s0 ng2s1 ng2q1 ⊢
              refine wpAnyH_ready (rs := [9]) (by kernel_rfl) (by simp) ?_
              refine AllReadyH.cons rfl (fun K hK => ?_) AllReadyH.nil
              refine step_cells rfl 32 (.tmp 12) (.tmp 31) rfl g2 (bs U) rfl rfl 32 _ q2 224 size32 (by rw [bs_size, zs_length]) hUb (bs_one _) (hK.out _ _ ⟨hS.1.other (by omega) _, hS.2.1.other (by omega) _, below_setRow hS.2.2 (by omega) _⟩ fun hS => ?_)
              try simp only [Act.put, List.getElem_toArray, List.getElem_cons_zero, List.getElem_cons_succ, List.setIfInBounds_toArray, List.set_cons_zero, List.set_cons_succ]
              have q1 := q1.other (g := g2) (by omega) (bs U)
              have q2 := q2.set (bs U)
              generalize w3_8.setRow g2 (bs U) = w4_9 at q1 q2 hS ⊢
              refine wpAnyH_take (i := 10) (v := .int .i64 0) rfl (by kernel_rfl) (by kernel_rfl) (by kernel_rfl) (fun _ _ _ h => h) (Or.inl ⟨by rfl, fun w _ => by go_simp⟩) hS ?_
              try simp only [Act.put, List.getElem_toArray, List.getElem_cons_zero, List.getElem_cons_succ, List.setIfInBounds_toArray, List.set_cons_zero, List.set_cons_succ]
              refine wpAnyH_done (by kernel_rfl) ?_ _
              have lq := q2.lt
              go_wp2_with (first
                | (refine load_row rfl 32 (.tmp 12) rfl g2 rfl 32 (bs U) q2 224 5 Try.underlying32 size32 hUb ?_)
                | (refine store_row rfl 32 (.tmp 11) (.tmp 36) rfl g1 U rfl rfl 32 _ q1 224 size32 hRb HUL.out ?_))
              go_meet
              exact ⟨2, lsn, undoT os, HU2.out, undoT_bytes os, by rw [← HU1.out]; exact q1.set _, hS.1.other (by omega) _, below_setRow hS.2.2 (by omega) _⟩
            ) (AllReadyH.cons rfl (fun K hK => by
              have ng2 := hS.2.2.size
              have ng2s0 := hS.1.lt
              have ng2s1 := hS.2.1.lt
              have ng2q1 := q1.lt
              have q2 : Row (w1_3.alloc (.cells (bs (zs 224)) 32)) w1_3.heap.size (bs (zs 224)) 32 := Row.new _ _ _
              have q1 := q1.alloc (.cells (bs (zs 224)) 32)
              have oK := oK.alloc (.cells (bs (zs 224)) 32)
              go_simp
              refine hK.out _ _ (⟨hS.1.alloc _, hS.2.1.alloc _, hS.2.2.alloc hS.2.2.size _⟩) fun hS => ?_
              try simp only [Act.put, List.getElem_toArray, List.getElem_cons_zero, List.getElem_cons_succ, List.setIfInBounds_toArray, List.set_cons_zero, List.set_cons_succ]
              generalize w1_3.alloc (.cells (bs (zs 224)) 32) = w2_8 at q2 q1 oK hS ⊢
              generalize w1_3.heap.size = g2 at q2 ng2 ng2s0 ng2s1 ng2q1 ⊢
              refine wpAnyH_ready (rs := [4]) (by kernel_rfl) (by simp) ?_
              refine AllReadyH.cons rfl (fun K hK => ?_) AllReadyH.nil
              go_simp
              go_at_call 16
              refine Calls.mono (HPU.out _ _ oK.olds) ?_
              rintro e w3_4 ⟨rfl, hcb⟩
              have q1 := q1.below hcb q1.lt
              have q2 := q2.below hcb q2.lt
              refine hK.out _ _ (⟨hS.1.below hcb hS.1.lt, hS.2.1.below hcb hS.2.1.lt, hS.2.2.trans (hcb.mono hS.2.2.size)⟩) fun hS => ?_
              try simp only [Act.put, List.getElem_toArray, List.getElem_cons_zero, List.getElem_cons_succ, List.setIfInBounds_toArray, List.set_cons_zero, List.set_cons_succ]
              clear hcb
              refine wpAnyH_take (i := 5) (v := .tuple #[.agg (bs U), .int .i64 0]) rfl (by kernel_rfl) (by kernel_rfl) (by kernel_rfl) (fun _ _ _ h => h) (Or.inl ⟨by rfl, fun w _ => by go_simp⟩) hS ?_
              try simp only [Act.put, List.getElem_toArray, List.getElem_cons_zero, List.getElem_cons_succ, List.setIfInBounds_toArray, List.set_cons_zero, List.set_cons_succ]
              refine wpAnyH_take (i := 6) (v := .agg (bs U)) rfl (by kernel_rfl) (by kernel_rfl) (by kernel_rfl) (fun _ _ _ h => h) (Or.inl ⟨by rfl, fun w _ => by go_simp⟩) hS ?_
              try simp only [Act.put, List.getElem_toArray, List.getElem_cons_zero, List.getElem_cons_succ, List.setIfInBounds_toArray, List.set_cons_zero, List.set_cons_succ]
              refine wpAnyH_take (i := 7) (v := .int .i64 0) rfl (by kernel_rfl) (by kernel_rfl) (by kernel_rfl) (fun _ _ _ h => h) (Or.inl ⟨by rfl, fun w _ => by go_simp⟩) hS ?_
              try simp only [Act.put, List.getElem_toArray, List.getElem_cons_zero, List.getElem_cons_succ, List.setIfInBounds_toArray, List.set_cons_zero, List.set_cons_succ]
              refine wpAnyH_ready (rs := [9]) (by kernel_rfl) (by simp) ?_
              refine AllReadyH.cons rfl (fun K hK => ?_) AllReadyH.nil
              refine step_cells rfl 32 (.tmp 12) (.tmp 31) rfl g2 (bs U) rfl rfl 32 _ q2 224 size32 (by rw [bs_size, zs_length]) hUb (bs_one _) (hK.out _ _ ⟨hS.1.other (by omega) _, hS.2.1.other (by omega) _, below_setRow hS.2.2 (by omega) _⟩ fun hS => ?_)
              try simp only [Act.put, List.getElem_toArray, List.getElem_cons_zero, List.getElem_cons_succ, List.setIfInBounds_toArray, List.set_cons_zero, List.set_cons_succ]
              have q1 := q1.other (g := g2) (by omega) (bs U)
              have q2 := q2.set (bs U)
              generalize w3_4.setRow g2 (bs U) = w4_9 at q1 q2 hS ⊢
              refine wpAnyH_take (i := 10) (v := .int .i64 0) rfl (by kernel_rfl) (by kernel_rfl) (by kernel_rfl) (fun _ _ _ h => h) (Or.inl ⟨by rfl, fun w _ => by go_simp⟩) hS ?_
              try simp only [Act.put, List.getElem_toArray, List.getElem_cons_zero, List.getElem_cons_succ, List.setIfInBounds_toArray, List.set_cons_zero, List.set_cons_succ]
              refine wpAnyH_done (by kernel_rfl) ?_ _
              have lq := q2.lt
              go_wp2_with (first
                | (refine load_row rfl 32 (.tmp 12) rfl g2 rfl 32 (bs U) q2 224 5 Try.underlying32 size32 hUb ?_)
                | (refine store_row rfl 32 (.tmp 11) (.tmp 36) rfl g1 U rfl rfl 32 _ q1 224 size32 hRb HUL.out ?_))
              go_meet
              exact ⟨2, lsn, undoT os, HU2.out, undoT_bytes os, by rw [← HU1.out]; exact q1.set _, hS.1.other (by omega) _, below_setRow hS.2.2 (by omega) _⟩
            ) AllReadyH.nil))
          ) (AllReadyH.cons rfl (fun K hK => by
            have ng2 := hS.2.2.size
            have ng2s0 := hS.1.lt
            have ng2s1 := hS.2.1.lt
            have ng2q1 := q1.lt
            have q2 : Row (wd.alloc (.cells (bs (zs 224)) 32)) wd.heap.size (bs (zs 224)) 32 := Row.new _ _ _
            have q1 := q1.alloc (.cells (bs (zs 224)) 32)
            go_simp
            refine hK.out _ _ (⟨hS.1.alloc _, hS.2.1.alloc _, hS.2.2.alloc hS.2.2.size _⟩) fun hS => ?_
            try simp only [Act.put, List.getElem_toArray, List.getElem_cons_zero, List.getElem_cons_succ, List.setIfInBounds_toArray, List.set_cons_zero, List.set_cons_succ]
            generalize wd.alloc (.cells (bs (zs 224)) 32) = w1_8 at q2 q1 hS ⊢
            generalize wd.heap.size = g2 at q2 ng2 ng2s0 ng2s1 ng2q1 ⊢
            refine wpAnyH_ready (rs := [3]) (by kernel_rfl) (by simp) ?_
            refine AllReadyH.cons rfl (fun K hK => ?_) AllReadyH.nil
            go_simp
            go_at_call 17
            refine Calls.mono (HKP.out _ hS.2.2) ?_
            rintro e w2_3 ⟨vK, rfl, oK, hcb⟩
            obtain ⟨oaK, capK, rfl⟩ := oK.form
            have HK : Hid _ := HPU.out _ _ oK.olds
            have q1 := q1.below hcb q1.lt
            have q2 := q2.below hcb q2.lt
            refine hK.out _ _ (⟨hS.1.below hcb hS.1.lt, hS.2.1.below hcb hS.2.1.lt, hS.2.2.trans (hcb.mono hS.2.2.size)⟩) fun hS => ?_
            try simp only [Act.put, List.getElem_toArray, List.getElem_cons_zero, List.getElem_cons_succ, List.setIfInBounds_toArray, List.set_cons_zero, List.set_cons_succ]
            clear hcb
            refine wpAnyH_ready (rs := [4]) (by kernel_rfl) (by simp) ?_
            refine AllReadyH.cons rfl (fun K hK => ?_) AllReadyH.nil
            go_simp
            go_at_call 16
            refine Calls.mono (HPU.out _ _ oK.olds) ?_
            rintro e w3_4 ⟨rfl, hcb⟩
            have q1 := q1.below hcb q1.lt
            have q2 := q2.below hcb q2.lt
            refine hK.out _ _ (⟨hS.1.below hcb hS.1.lt, hS.2.1.below hcb hS.2.1.lt, hS.2.2.trans (hcb.mono hS.2.2.size)⟩) fun hS => ?_
            try simp only [Act.put, List.getElem_toArray, List.getElem_cons_zero, List.getElem_cons_succ, List.setIfInBounds_toArray, List.set_cons_zero, List.set_cons_succ]
            clear hcb
            refine wpAnyH_take (i := 5) (v := .tuple #[.agg (bs U), .int .i64 0]) rfl (by kernel_rfl) (by kernel_rfl) (by kernel_rfl) (fun _ _ _ h => h) (Or.inl ⟨by rfl, fun w _ => by go_simp⟩) hS ?_
            try simp only [Act.put, List.getElem_toArray, List.getElem_cons_zero, List.getElem_cons_succ, List.setIfInBounds_toArray, List.set_cons_zero, List.set_cons_succ]
            refine wpAnyH_take (i := 6) (v := .agg (bs U)) rfl (by kernel_rfl) (by kernel_rfl) (by kernel_rfl) (fun _ _ _ h => h) (Or.inl ⟨by rfl, fun w _ => by go_simp⟩) hS ?_
            try simp only [Act.put, List.getElem_toArray, List.getElem_cons_zero, List.getElem_cons_succ, List.setIfInBounds_toArray, List.set_cons_zero, List.set_cons_succ]
            refine wpAnyH_take (i := 7) (v := .int .i64 0) rfl (by kernel_rfl) (by kernel_rfl) (by kernel_rfl) (fun _ _ _ h => h) (Or.inl ⟨by rfl, fun w _ => by go_simp⟩) hS ?_
            try simp only [Act.put, List.getElem_toArray, List.getElem_cons_zero, List.getElem_cons_succ, List.setIfInBounds_toArray, List.set_cons_zero, List.set_cons_succ]
            refine wpAnyH_ready (rs := [9]) (by kernel_rfl) (by simp) ?_
            refine AllReadyH.cons rfl (fun K hK => ?_) AllReadyH.nil
            refine step_cells rfl 32 (.tmp 12) (.tmp 31) rfl g2 (bs U) rfl rfl 32 _ q2 224 size32 (by rw [bs_size, zs_length]) hUb (bs_one _) (hK.out _ _ ⟨hS.1.other (by omega) _, hS.2.1.other (by omega) _, below_setRow hS.2.2 (by omega) _⟩ fun hS => ?_)
            try simp only [Act.put, List.getElem_toArray, List.getElem_cons_zero, List.getElem_cons_succ, List.setIfInBounds_toArray, List.set_cons_zero, List.set_cons_succ]
            have q1 := q1.other (g := g2) (by omega) (bs U)
            have q2 := q2.set (bs U)
            generalize w3_4.setRow g2 (bs U) = w4_9 at q1 q2 hS ⊢
            refine wpAnyH_take (i := 10) (v := .int .i64 0) rfl (by kernel_rfl) (by kernel_rfl) (by kernel_rfl) (fun _ _ _ h => h) (Or.inl ⟨by rfl, fun w _ => by go_simp⟩) hS ?_
            try simp only [Act.put, List.getElem_toArray, List.getElem_cons_zero, List.getElem_cons_succ, List.setIfInBounds_toArray, List.set_cons_zero, List.set_cons_succ]
            refine wpAnyH_done (by kernel_rfl) ?_ _
            have lq := q2.lt
            go_wp2_with (first
              | (refine load_row rfl 32 (.tmp 12) rfl g2 rfl 32 (bs U) q2 224 5 Try.underlying32 size32 hUb ?_)
              | (refine store_row rfl 32 (.tmp 11) (.tmp 36) rfl g1 U rfl rfl 32 _ q1 224 size32 hRb HUL.out ?_))
            go_meet
            exact ⟨2, lsn, undoT os, HU2.out, undoT_bytes os, by rw [← HU1.out]; exact q1.set _, hS.1.other (by omega) _, below_setRow hS.2.2 (by omega) _⟩
          ) AllReadyH.nil))
    case rest =>
      clear q1 r0 r2 ab HPU HKP HPD HDL HDB HRL HUL hRb hUb hsA HER HUM
      obtain ⟨k, l, t, HT1, HT2, q1, r0, ab⟩ := hcut
      obtain ⟨A', eA⟩ : ∃ A : Int, wrap64 ((IntKind.u64.wrap a1).tmod 1704) = A := ⟨_, rfl⟩
      have hA : 0 ≤ A' ∧ A' < 1704 := by
        have p1 : 0 ≤ IntKind.u64.wrap a1 := by rw [IntKind.wrap_u64]; omega
        rw [Int.tmod_eq_emod_of_nonneg p1] at eA
        have q1 := Int.emod_nonneg (IntKind.u64.wrap a1) (show (1704 : Int) ≠ 0 by omega)
        have q2 := Int.emod_lt_of_pos (IntKind.u64.wrap a1) (show (0 : Int) < 1704 by omega)
        unfold wrap64 at eA
        omega
      obtain ⟨pq, hp⟩ : ∃ p : Nat, A' / 8 = (p : Int) := ⟨(A' / 8).toNat, by omega⟩
      obtain ⟨tt, ht⟩ : ∃ t : Nat, A' % 8 = (t : Int) := ⟨(A' % 8).toNat, by omega⟩
      have ht8 : tt < 8 := by omega
      have m1 : A'.tmod 8 = (tt : Int) := by rw [Int.tmod_eq_emod_of_nonneg hA.1]; exact ht
      have m2 : A'.tdiv 8 = (pq : Int) := by rw [Int.tdiv_eq_ediv_of_nonneg hA.1]; exact hp
      obtain ⟨p, HPP⟩ : ∃ p : Nat, Hid (pq + 7 = p) := ⟨_, rfl⟩
      have hp5 : p + 5 ≤ 224 := by rw [← HPP.out]; omega
      have h7 : 7 ≤ p := by rw [← HPP.out]; omega
      have ew1 : IntKind.i64.wrap ((pq : Int) + 7) = (p : Int) := by rw [← HPP.out, IntKind.wrap_i64]; omega
      have ew1' : (pq : Int) + 7 = (p : Int) := by rw [← HPP.out]; omega
      obtain ⟨X, HX⟩ : ∃ X : Nat, Hid (X = r.toNat * 2 ^ tt) := ⟨_, rfl⟩
      have hX64 : X < 18446744073709551616 := by
        rw [HX.out]
        have h2 : 2 ^ tt ≤ 2 ^ 7 := Nat.pow_le_pow_right (by decide) (by omega)
        have h3 : r.toNat * 2 ^ tt ≤ 4294967295 * 2 ^ 7 := Nat.mul_le_mul (by have := r.isLt; omega) h2
        omega
      have eX : IntKind.u64.wrap (u r * 2 ^ tt) = (X : Int) := by
        rw [IntKind.wrap_u64]
        have : u r * 2 ^ tt = (X : Int) := by rw [HX.out]; unfold u; simp
        rw [this]; omega
      have eu : IntKind.u64.wrap (u r) = u r := by rw [IntKind.wrap_u64]; omega
      have HTN : Hid (isP ub no (flp (payT k no l t) p X 5) = false) := turned_none k no l t HT1.out HT2.out ub no p X r tt ht8 HR0.out h7 hp5 HX.out
      have HLL : Hid ((payT k no l t).length = 224) := payT_length _ _ _ _ HT1.out
      have HLB : Hid (Bytes (payT k no l t)) := payT_bytes _ _ _ _ HT2.out
      have HRT : Hid _ := fun w => right_any ub no (flp (payT k no l t) p X 5) w hno (flp_length _ _ _ _) (flp_bytes _ _ _ _ HLB.out)
      rw [HTN.out] at HRT
      generalize payT k no l t = L at q1 HRT HLL HLB
      clear hA b1 HTN hp ht
      have q1 : Row wc g1 (bs (flp L p X 0)) 32 := by rw [flp_zero _ _ _ HLL.out]; exact q1
      go_wp2
      simp only [eA]
      clear eA
      go_loopw [15] (fun i wr => ∃ j : Nat, j ≤ 5 ∧ i = .int .i64 j ∧ Row wr g1 (bs (flp L p X j)) 32 ∧ Row wr w.heap.size #[.bool ub, .int .u16 no] 59 ∧ Below w.heap.size w wr) (fun i _ => 5 - (intOf i).toNat)
      case atStart => exact ⟨0, by omega, rfl, q1, r0, ab⟩
      case round =>
        clear q1 r0 ab
        obtain ⟨j, hj, rfl, q1, r0, ab⟩ := hrel
        by_cases hlt : j < 5
        · have hlt' : (j : Int) < 5 := by omega
          have hyb := HLB.out.at (p + j)
          have hc1 := row_cell q1 (p + j) (by rw [flp_length]; omega)
          have hf1 := row_frozen q1 (p + j)
          have hy : (flp L p X j).getD (p + j) 0 = L.getD (p + j) 0 := by rw [flp_at _ _ _ _ _ (by omega), if_neg (by omega)]
          rw [hy] at hc1
          have R1 := row_setCell q1 (p + j) (xb (L.getD (p + j) 0) X j)
          rw [flp_set L p X j (by omega), ← xb_code _ X j hyb] at R1
          have R0 := row_setCell_other r0 (show w.heap.size ≠ g1 by omega) (p + j) (.int .u8 (bits .xor .u8 (L.getD (p + j) 0) ((X : Int) / 2 ^ (8 * j) % 256)))
          have G := ab.setCell (p := ⟨g1, p + j, none⟩) (show w.heap.size ≤ g1 by omega) (.int .u8 (bits .xor .u8 (L.getD (p + j) 0) ((X : Int) / 2 ^ (8 * j) % 256)))
          generalize L.getD (p + j) 0 = y at hc1 R1 R0 G hyb
          have hpj : (p : Int) + j < 224 := by omega
          have hpj2 : ¬ (p : Int) + j < 0 := by omega
          clear hy HRT HLL HLB q1
          go_wp2_with fail
          go_region
          all_goals go_wp2_with fail
          all_goals go_roundw
          all_goals first
            | exact ⟨j + 1, by omega, by go_num, R1, R0, G.drew⟩
            | (simp [intOf]; omega)
        · obtain rfl : j = 5 := by omega
          have hfb : (bs (flp L p X 5)).size = 224 := by rw [bs_size, flp_length]
          generalize flp L p X 5 = F at q1 HRT hfb
          go_wp2_with (first
            | (refine load_cells rfl 59 (.tmp 5) rfl w.heap.size rfl 59 #[.bool ub, .int .u16 no] r0 2 Try.underlying59 rfl size59 rfl ?_)
            | (refine load_row rfl 32 (.tmp 11) rfl g1 rfl 32 (bs F) q1 224 5 Try.underlying32 size32 hfb ?_)
            | (go_at_call 27; refine (HRT.out _).mono ?_; clear HRT; rintro e w6 ⟨rfl, h6⟩)
            | (go_at_call 15; refine (HAW.out _).mono ?_; clear HAW; rintro e w7 ⟨rfl, h7⟩))
          have ab := ab.trans (h6.mono ab.size)
          go_ret
          exact ⟨rfl, ab.trans (h7.mono ab.size)⟩

set_option maxRecDepth 100000 in
theorem lifted (os : Os) (started : os.Started) (H : Type) (enc : TypeId × Value → H) :
    ReturnsInHanded {} Try.checked os 7 .any (Rows.pageTurnedSpec.pre6 enc Try.prog Try.f7 Rows.pageTurnedRow.domain false) (Rows.pageTurnedSpec.post enc Try.prog Try.f7 false true false false) := by
  refine returnsInHanded_of_change_sized (C := Try.checked) own started (by kernel_rfl) Try.func7
    (ChangeSpec.witness6 (enc := enc) (C := Try.checked) false ⟨#[], #[.agg #[.bool false, .int .u16 0], .agg D.zero.arr, .agg #[.int .u64 0, .slice none 0 0], .int .i64 0, .int .u32 0], []⟩ 8 (by kernel_rfl) (by kernel_rfl) (by kernel_rfl) (by kernel_rfl)) ?_
  intro W base args ds gs before hval0 hW hcnd hsz0 _
  have hval : ∀ (j : Nat) t v, Try.f7.params[j]? = some t → args[j]? = some v → Value.okWide Try.prog W .any base t v := hval0
  have hW' := hW
  obtain ⟨p, q, hA0, hV, rfl, hfz, hnd⟩ := hW
  have hA : DataW.TrodAll enc Try.prog W 0 (fun _ => true) true Try.f7.params.toList args.toList ds p := hA0
  have hsz : (DataW.weightsEach Try.prog (Try.f7.params.toList ++ []) (ds ++ gs)).all (· ≤ reachBytes) = true := hsz0
  rw [Try.params7] at hA hval hsz
  obtain ⟨v0, vs0, d0, ds0, p0, q0, hargs, rfl, rfl, h0, r0⟩ := trodAll_cons hA
  obtain ⟨v1, vs1, d1, ds1, p1, q1, rfl, rfl, rfl, h1, r1⟩ := trodAll_cons r0
  obtain ⟨v2, vs2, d2, ds2, p2, q2, rfl, rfl, rfl, h2, r2⟩ := trodAll_cons r1
  obtain ⟨v3, vs3, d3, ds3, p3, q3, rfl, rfl, rfl, h3, r3⟩ := trodAll_cons r2
  obtain ⟨v4, vs4, d4, ds4, p4, q4, rfl, rfl, rfl, h4, r4⟩ := trodAll_cons r3
  obtain ⟨rfl, rfl, rfl⟩ := trodAll_nil r4
  obtain rfl : args = #[v0, v1, v2, v3, v4] := by cases args; simp_all
  obtain ⟨rfl, rfl⟩ := trodVars_none hV
  simp only [List.append_nil] at hsz
  have hlt : ∀ x ∈ (p0 ++ (p1 ++ (p2 ++ (p3 ++ (p4 ++ []))))), x.block < W.heap.size := fun x hx => hW'.lt x (by simpa using hx)
  have hw0 : (d0.weights Try.prog 59).all (· ≤ reachBytes) = true := List.all_eq_true.2 fun m hm => List.all_eq_true.1 hsz m (by simp [DataW.weightsEach, hm])
  have hw1 : (d1.weights Try.prog 30).all (· ≤ reachBytes) = true := List.all_eq_true.2 fun m hm => List.all_eq_true.1 hsz m (by simp [DataW.weightsEach, hm])
  have hw2 : (d2.weights Try.prog 44).all (· ≤ reachBytes) = true := List.all_eq_true.2 fun m hm => List.all_eq_true.1 hsz m (by simp [DataW.weightsEach, hm])
  have hw3 : (d3.weights Try.prog 3).all (· ≤ reachBytes) = true := List.all_eq_true.2 fun m hm => List.all_eq_true.1 hsz m (by simp [DataW.weightsEach, hm])
  have hw4 : (d4.weights Try.prog 24).all (· ≤ reachBytes) = true := List.all_eq_true.2 fun m hm => List.all_eq_true.1 hsz m (by simp [DataW.weightsEach, hm])
  have k0 := h0
  have k1 := h1
  have k2 := h2
  have k3 := h3
  have k4 := h4
  obtain ⟨a0, c0, rfl, w0⟩ := open_pidv (hval 0 59 v0 rfl rfl) h0
  obtain ⟨a1, rfl, w1⟩ := open_datav (hval 1 30 v1 rfl rfl) h1
  obtain ⟨a2, c2, l2, rfl, w2⟩ := open_undov (hval 2 44 v2 rfl rfl) h2 hw2
  obtain ⟨a3, rfl, rfl, rfl, w3⟩ := open_int Try.underlying3 (hval 3 3 v3 rfl rfl) h3
  obtain ⟨a4, rfl, rfl, rfl, w4⟩ := open_int Try.underlying24 (hval 4 24 v4 rfl rfl) h4
  clear hA0 hval0
  simp only [List.append_nil] at hW'
  refine (walk W a0 c0 a1 a2 c2 l2 a3 a4 w0 w1 w2 w3 w4).mono fun e W' ⟨he, hg⟩ => ?_
  subst he
  exact ⟨_, rfl, ⟨_, _, _, [], (p0 ++ (p1 ++ (p2 ++ ([] ++ ([] ++ []))))), [], hW', (trodAll_cons_mk (shut_bool Try.underlying4 _) trodAll_mk0), (trodAll_cons_mk (Below.trod laidOut (by kernel_rfl) (of_decide_eq_true (by kernel_rfl)) k0 hg (fun x hx => hlt x (by simp [hx]))) (trodAll_cons_mk (Below.trod laidOut (by kernel_rfl) (of_decide_eq_true (by kernel_rfl)) k1 hg (fun x hx => hlt x (by simp [hx]))) (trodAll_cons_mk (Below.trod laidOut (by kernel_rfl) (of_decide_eq_true (by kernel_rfl)) k2 hg (fun x hx => hlt x (by simp [hx]))) (trodAll_cons_mk (Below.trod laidOut (by kernel_rfl) (of_decide_eq_true (by kernel_rfl)) k3 hg (fun x hx => (nomatch hx))) (trodAll_cons_mk (Below.trod laidOut (by kernel_rfl) (of_decide_eq_true (by kernel_rfl)) k4 hg (fun x hx => (nomatch hx))) trodAll_mk0))))), rfl,
    hg.frame _, fun h => by cases h⟩⟩

theorem over : Rows.pageTurnedRow.holds Try.pinned (OpenSpec.ofChange Rows.pageTurnedSpec) :=
  OpenClaim.holds_of_wide 7 Try.f7 rfl rfl rfl rfl rfl rfl rfl ⟨rfl, rfl, rfl, rfl, rfl⟩ rfl rfl rfl rfl rfl (by kernel_rfl) Try.func7 (by kernel_rfl)
    (of_decide_eq_true (by kernel_rfl)) (by unfold Func.isWrapper; first | (rw [if_pos (by decide +kernel)]; kernel_rfl) | (rw [if_neg (by decide +kernel)]; exact ⟨rfl, rfl⟩))
    (fun os started H enc _ => lifted os started H enc)

/-- The statement. -/
theorem proved : Rows.PageTurnedSaid :=
  over
#print axioms proved
end Go.Proofs.Ytomlbkdagaldoaa.pageTurned
