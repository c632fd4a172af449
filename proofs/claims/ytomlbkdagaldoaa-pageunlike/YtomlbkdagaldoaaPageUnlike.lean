/-
  Proved here: unlike data pages of one number have unlike payloads, and so have pages of unlike numbers; a data page's payload is told as that of its own number alone, and as no undo page's (PageUnlike), for all numbers and data pages.
-/
import Derived.Test.YtomlbkdagaldoaaOpn
namespace Go.Proofs.Ytomlbkdagaldoaa.pageUnlike
open Go.ChangeShapes Go.WideShapes Go.ChangeAt Go.RowKit
open Go.Deep
set_option linter.unusedVariables false
set_option linter.unusedSimpArgs false

theorem own : ownKnob Try.prog.godebug = none := by kernel_rfl

/-- A data page's payload is no undo page's. -/
theorem isU_data (no on : Int) (d : D) (hd : d.Ok) : isU on (putD no d) = false := by
  unfold isU
  cases hm : may (uOf (putD no d))
  · rfl
  · rw [Bool.and_eq_false_iff]
    right
    apply decide_eq_false
    intro h
    have h1 := putD_kind no d hd
    rw [← h] at h1
    unfold putU at h1
    rw [hm, if_pos rfl, payT_at _ _ _ _ (undoT_le _ hm) _ (by omega), head_kind] at h1
    simp at h1
theorem errD_is (on : Int) (p : List Int) : (errD on p == 0) = isD on p := by
  unfold errD
  cases isD on p <;> rfl
set_option maxHeartbeats 4000000 in
theorem walk (w : World) (no on : Int) (a b : D) (hno : (Lit.int .u16 no).wf = true) (hon : (Lit.int .u16 on).wf = true) (ha : a.Ok) (hb : b.Ok) :
    Calls Try.prog 8 #[.int .u16 no, .int .u16 on, .agg a.arr, .agg b.arr] w fun e w' => e = .returned (.bool true) ∧ Below w.heap.size w w' := by
  have hno := bounds_u16 hno
  have hon := bounds_u16 hon
  have hz := zero32
  have hz1 := zero30
  have hz2 := zero44
  have hl1 := putD_length no a ha.len
  have hl2 := putD_length on b hb.len
  have hb1 := putD_bytes no a ha.bytes
  have HP1 : Hid _ := fun w => putData_any no a w hno ha
  have HP2 : Hid _ := fun w => putData_any on b w hon hb
  have HGD : Hid _ := fun w => getData_any on (putD no a) w hon hl1 hb1
  have HGU : Hid _ := fun w => getUndo_any no (putD no a) w hno hl1 hb1
  have HAW : Hid _ := fun w => awake_any w
  have heq := equal32 (putD no a) (putD on b) hl1 hl2
  have heqd := fun w => equal30 a b ha hb w
  have HEQ : Hid (decide (putD no a = putD on b) = (decide (no = on) && decide (a = b))) := by
    show _ = _
    rw [Bool.eq_iff_iff]
    simp only [decide_eq_true_eq, Bool.and_eq_true]
    exact ⟨fun h => putD_inj no on a b ha hb hno hon h, fun h => by rw [h.1, h.2]⟩
  have HED : Hid ((errD on (putD no a) == 0) = decide (no = on)) := by show _ = _; rw [errD_is, isD_other no on a ha hno hon]
  have HIU : Hid (isU no (putD no a) = false) := isU_data no no a ha
  have hgs := D.arr_size (gotD on (putD no a)) (gotD_ok on _ hl1 hb1).len
  have hg1 := D.arr_one (gotD on (putD no a))
  have hsa := D.arr_size a ha.len
  have hsb := D.arr_size b hb.len
  obtain ⟨R1, HR1⟩ : ∃ R, Hid (putD no a = R) := ⟨_, rfl⟩
  obtain ⟨R2, HR2⟩ : ∃ R, Hid (putD on b = R) := ⟨_, rfl⟩
  rw [HR1.out] at HP1 HGD HGU heq HEQ HED HIU hgs hg1 hl1
  rw [HR2.out] at HP2 heq HEQ hl2
  obtain ⟨X, HX⟩ : ∃ R, Hid ((gotD on R1).arr = R) := ⟨_, rfl⟩
  obtain ⟨E, HE⟩ : ∃ R, Hid (errD on R1 = R) := ⟨_, rfl⟩
  rw [HX.out] at HGD hgs hg1
  rw [HE.out] at HGD HED
  obtain ⟨XA, HXA⟩ : ∃ R, Hid (a.arr = R) := ⟨_, rfl⟩
  obtain ⟨XB, HXB⟩ : ∃ R, Hid (b.arr = R) := ⟨_, rfl⟩
  rw [HXA.out] at HP1 heqd hsa ⊢
  rw [HXB.out] at HP2 heqd hsb ⊢
  rw [HEQ.out] at heq
  clear ha hb hb1 HEQ
  have hR1s : (bs R1).size = 224 := by rw [bs_size, hl1]
  have hR2s : (bs R2).size = 224 := by rw [bs_size, hl2]
  have r0 : Row ((w.alloc (.cells XA 30)).alloc (.cells XB 30)) w.heap.size XA 30 := (Row.new _ _ _).alloc _
  have r1 : Row ((w.alloc (.cells XA 30)).alloc (.cells XB 30)) (w.heap.size + 1) XB 30 := by have := Row.new (w.alloc (.cells XA 30)) XB 30; simpa using this
  have ab : Below w.heap.size w ((w.alloc (.cells XA 30)).alloc (.cells XB 30)) := ((Below.refl _ _).alloc (Nat.le_refl _) _).alloc (by simp) _
  go_enter Try.func8, Try.ntmps8
  go_upto_region 1 with fail
  generalize (w.alloc (.cells XA 30)).alloc (.cells XB 30) = w1 at r0 r1 ab ⊢
  go_cut [9, 10] from 11 to 57 (fun p q wx => ∃ gp gq : Nat, p = .pointer (some ⟨gp, 0, none⟩) ∧ q = .pointer (some ⟨gq, 0, none⟩) ∧ Row wx gp (bs R1) 32 ∧ Row wx gq (bs R2) 32 ∧ Row wx w.heap.size XA 30 ∧ Row wx (w.heap.size + 1) XB 30 ∧ Below w.heap.size w wx)
  case first =>
    have hw1 := r1.lt
    refine wp_region_held_drew (S := fun w' => Row w' w.heap.size XA 30 ∧ Row w' (w.heap.size + 1) XB 30 ∧ Below w.heap.size w w') (by kernel_rfl) ⟨r0, r1, ab.drew⟩ fun hS => ?_
    clear r0 r1 ab hw1
    generalize w1.drew = wd at hS ⊢
    refine wpAnyH_take (i := 0) (v := .int .u16 no) rfl (by kernel_rfl) (by kernel_rfl) (by kernel_rfl) (fun _ _ _ h => h) (Or.inl ⟨by rfl, fun w _ => by go_simp⟩) hS ?_
    try simp only [Act.put, List.getElem_toArray, List.getElem_cons_zero, List.getElem_cons_succ, List.setIfInBounds_toArray, List.set_cons_zero, List.set_cons_succ]
    refine wpAnyH_take (i := 1) (v := .agg XA) rfl (by kernel_rfl) (by kernel_rfl) (by kernel_rfl) (fun _ _ _ h => h) (yields_cells (by rfl) 30 (.tmp 6) rfl w.heap.size rfl 30 XA (fun w h => h.1) 68 Try.underlying30 rfl size30 hsa) hS ?_
    try simp only [Act.put, List.getElem_toArray, List.getElem_cons_zero, List.getElem_cons_succ, List.setIfInBounds_toArray, List.set_cons_zero, List.set_cons_succ]
    refine wpAnyH_take (i := 3) (v := .int .u16 on) rfl (by kernel_rfl) (by kernel_rfl) (by kernel_rfl) (fun _ _ _ h => h) (Or.inl ⟨by rfl, fun w _ => by go_simp⟩) hS ?_
    try simp only [Act.put, List.getElem_toArray, List.getElem_cons_zero, List.getElem_cons_succ, List.setIfInBounds_toArray, List.set_cons_zero, List.set_cons_succ]
    refine wpAnyH_take (i := 4) (v := .agg XB) rfl (by kernel_rfl) (by kernel_rfl) (by kernel_rfl) (fun _ _ _ h => h) (yields_cells (by rfl) 30 (.tmp 7) rfl (w.heap.size + 1) rfl 30 XB (fun w h => h.2.1) 68 Try.underlying30 rfl size30 hsb) hS ?_
    try simp only [Act.put, List.getElem_toArray, List.getElem_cons_zero, List.getElem_cons_succ, List.setIfInBounds_toArray, List.set_cons_zero, List.set_cons_succ]
    refine wpAnyH_ready (rs := [2, 6, 7]) (by kernel_rfl) (by simp) ?_
    exact (AllReadyH.cons rfl (fun K hK => by
      go_simp
      go_at_call 11
      refine (HP1.out _).mono ?_
      rintro e c2 ⟨rfl, hcb⟩
      refine hK.out _ _ ⟨hS.1.below hcb hS.1.lt, hS.2.1.below hcb hS.2.1.lt, hS.2.2.trans (hcb.mono hS.2.2.size)⟩ fun hS => ?_
      try simp only [Act.put, List.getElem_toArray, List.getElem_cons_zero, List.getElem_cons_succ, List.setIfInBounds_toArray, List.set_cons_zero, List.set_cons_succ]
      clear hcb
      refine wpAnyH_ready (rs := [5, 6, 7]) (by kernel_rfl) (by simp) ?_
      exact (AllReadyH.cons rfl (fun K hK => by
        go_simp
        go_at_call 11
        refine (HP2.out _).mono ?_
        rintro e c5 ⟨rfl, hcb⟩
        refine hK.out _ _ ⟨hS.1.below hcb hS.1.lt, hS.2.1.below hcb hS.2.1.lt, hS.2.2.trans (hcb.mono hS.2.2.size)⟩ fun hS => ?_
        try simp only [Act.put, List.getElem_toArray, List.getElem_cons_zero, List.getElem_cons_succ, List.setIfInBounds_toArray, List.set_cons_zero, List.set_cons_succ]
        clear hcb
        refine wpAnyH_ready (rs := [6, 7]) (by kernel_rfl) (by simp) ?_
        exact (AllReadyH.cons rfl (fun K hK => by
          have hsz := hS.2.2.size
          have h1l := hS.2.1.lt
          have hP : Row (c5.alloc (.cells (bs (zs 224)) 32)) c5.heap.size (bs (zs 224)) 32 := Row.new _ _ _
          go_simp
          refine hK.out _ _ ⟨hS.1.alloc _, hS.2.1.alloc _, hS.2.2.alloc hS.2.2.size _⟩ fun hS => ?_
          try simp only [Act.put, List.getElem_toArray, List.getElem_cons_zero, List.getElem_cons_succ, List.setIfInBounds_toArray, List.set_cons_zero, List.set_cons_succ]
          generalize c5.alloc (.cells (bs (zs 224)) 32) = x6 at hP  hS ⊢
          generalize c5.heap.size = gp at hP hsz h1l  ⊢
          have hngp : w.heap.size + 1 < gp := h1l
          clear hsz h1l
          refine wpAnyH_ready (rs := [7]) (by kernel_rfl) (by simp) ?_
          exact (AllReadyH.cons rfl (fun K hK => by
            have hsz := hS.2.2.size
            have h1l := hS.2.1.lt
            have lhP := hP.lt
            have hQ : Row (x6.alloc (.cells (bs (zs 224)) 32)) x6.heap.size (bs (zs 224)) 32 := Row.new _ _ _
            have hP := hP.alloc (.cells (bs (zs 224)) 32)
            go_simp
            refine hK.out _ _ ⟨hS.1.alloc _, hS.2.1.alloc _, hS.2.2.alloc hS.2.2.size _⟩ fun hS => ?_
            try simp only [Act.put, List.getElem_toArray, List.getElem_cons_zero, List.getElem_cons_succ, List.setIfInBounds_toArray, List.set_cons_zero, List.set_cons_succ]
            generalize x6.alloc (.cells (bs (zs 224)) 32) = x7 at hQ hP hS ⊢
            generalize x6.heap.size = gq at hQ hsz h1l lhP ⊢
            have hngq : w.heap.size + 1 < gq := h1l
            have hne : gp ≠ gq := by omega
            clear hsz h1l
            refine wpAnyH_ready (rs := [8]) (by kernel_rfl) (by simp) ?_
            exact (AllReadyH.cons rfl (fun K hK => step_store rfl 32 (.tmp 9) (.tmp 17) rfl gp R1 rfl rfl 32 _ hP 224 size32 (by rw [bs_size, zs_length]) hl1 (hK.out _ _ ⟨hS.1.other (by omega) _, hS.2.1.other (by omega) _, below_setRow hS.2.2 (by omega) _⟩ fun hS => by
              try simp only [Act.put, List.getElem_toArray, List.getElem_cons_zero, List.getElem_cons_succ, List.setIfInBounds_toArray, List.set_cons_zero, List.set_cons_succ]
              have hP := hP.set (bs R1)
              have hQ := hQ.other (g := gp) (by omega) (bs R1)
              refine wpAnyH_ready (rs := [9]) (by kernel_rfl) (by simp) ?_
              exact (AllReadyH.cons rfl (fun K hK => step_store rfl 32 (.tmp 10) (.tmp 20) rfl gq R2 rfl rfl 32 _ hQ 224 size32 (by rw [bs_size, zs_length]) hl2 (hK.out _ _ ⟨hS.1.other (by omega) _, hS.2.1.other (by omega) _, below_setRow hS.2.2 (by omega) _⟩ fun hS => by
                try simp only [Act.put, List.getElem_toArray, List.getElem_cons_zero, List.getElem_cons_succ, List.setIfInBounds_toArray, List.set_cons_zero, List.set_cons_succ]
                have hP := hP.other (g := gq) (by omega) (bs R2)
                have hQ := hQ.set (bs R2)
                refine wpAnyH_done (by kernel_rfl) ?_ _
                go_wp2
                go_meet
                exact ⟨gp, gq, rfl, rfl, hP, hQ, hS.1, hS.2.1, hS.2.2⟩)) AllReadyH.nil)
            )) AllReadyH.nil)
          ) AllReadyH.nil)
        ) (AllReadyH.cons rfl (fun K hK => by
          have hsz := hS.2.2.size
          have h1l := hS.2.1.lt
          have hQ : Row (c5.alloc (.cells (bs (zs 224)) 32)) c5.heap.size (bs (zs 224)) 32 := Row.new _ _ _
          go_simp
          refine hK.out _ _ ⟨hS.1.alloc _, hS.2.1.alloc _, hS.2.2.alloc hS.2.2.size _⟩ fun hS => ?_
          try simp only [Act.put, List.getElem_toArray, List.getElem_cons_zero, List.getElem_cons_succ, List.setIfInBounds_toArray, List.set_cons_zero, List.set_cons_succ]
          generalize c5.alloc (.cells (bs (zs 224)) 32) = x7 at hQ  hS ⊢
          generalize c5.heap.size = gq at hQ hsz h1l  ⊢
          have hngq : w.heap.size + 1 < gq := h1l
          clear hsz h1l
          refine wpAnyH_ready (rs := [6]) (by kernel_rfl) (by simp) ?_
          exact (AllReadyH.cons rfl (fun K hK => by
            have hsz := hS.2.2.size
            have h1l := hS.2.1.lt
            have lhQ := hQ.lt
            have hP : Row (x7.alloc (.cells (bs (zs 224)) 32)) x7.heap.size (bs (zs 224)) 32 := Row.new _ _ _
            have hQ := hQ.alloc (.cells (bs (zs 224)) 32)
            go_simp
            refine hK.out _ _ ⟨hS.1.alloc _, hS.2.1.alloc _, hS.2.2.alloc hS.2.2.size _⟩ fun hS => ?_
            try simp only [Act.put, List.getElem_toArray, List.getElem_cons_zero, List.getElem_cons_succ, List.setIfInBounds_toArray, List.set_cons_zero, List.set_cons_succ]
            generalize x7.alloc (.cells (bs (zs 224)) 32) = x6 at hP hQ hS ⊢
            generalize x7.heap.size = gp at hP hsz h1l lhQ ⊢
            have hngp : w.heap.size + 1 < gp := h1l
            have hne : gp ≠ gq := by omega
            clear hsz h1l
            refine wpAnyH_ready (rs := [8]) (by kernel_rfl) (by simp) ?_
            exact (AllReadyH.cons rfl (fun K hK => step_store rfl 32 (.tmp 9) (.tmp 17) rfl gp R1 rfl rfl 32 _ hP 224 size32 (by rw [bs_size, zs_length]) hl1 (hK.out _ _ ⟨hS.1.other (by omega) _, hS.2.1.other (by omega) _, below_setRow hS.2.2 (by omega) _⟩ fun hS => by
              try simp only [Act.put, List.getElem_toArray, List.getElem_cons_zero, List.getElem_cons_succ, List.setIfInBounds_toArray, List.set_cons_zero, List.set_cons_succ]
              have hP := hP.set (bs R1)
              have hQ := hQ.other (g := gp) (by omega) (bs R1)
              refine wpAnyH_ready (rs := [9]) (by kernel_rfl) (by simp) ?_
              exact (AllReadyH.cons rfl (fun K hK => step_store rfl 32 (.tmp 10) (.tmp 20) rfl gq R2 rfl rfl 32 _ hQ 224 size32 (by rw [bs_size, zs_length]) hl2 (hK.out _ _ ⟨hS.1.other (by omega) _, hS.2.1.other (by omega) _, below_setRow hS.2.2 (by omega) _⟩ fun hS => by
                try simp only [Act.put, List.getElem_toArray, List.getElem_cons_zero, List.getElem_cons_succ, List.setIfInBounds_toArray, List.set_cons_zero, List.set_cons_succ]
                have hP := hP.other (g := gq) (by omega) (bs R2)
                have hQ := hQ.set (bs R2)
                refine wpAnyH_done (by kernel_rfl) ?_ _
                go_wp2
                go_meet
                exact ⟨gp, gq, rfl, rfl, hP, hQ, hS.1, hS.2.1, hS.2.2⟩)) AllReadyH.nil)
            )) AllReadyH.nil)
          ) AllReadyH.nil)
        ) AllReadyH.nil))
      ) (AllReadyH.cons rfl (fun K hK => by
        have hsz := hS.2.2.size
        have h1l := hS.2.1.lt
        have hP : Row (c2.alloc (.cells (bs (zs 224)) 32)) c2.heap.size (bs (zs 224)) 32 := Row.new _ _ _
        go_simp
        refine hK.out _ _ ⟨hS.1.alloc _, hS.2.1.alloc _, hS.2.2.alloc hS.2.2.size _⟩ fun hS => ?_
        try simp only [Act.put, List.getElem_toArray, List.getElem_cons_zero, List.getElem_cons_succ, List.setIfInBounds_toArray, List.set_cons_zero, List.set_cons_succ]
        generalize c2.alloc (.cells (bs (zs 224)) 32) = x6 at hP  hS ⊢
        generalize c2.heap.size = gp at hP hsz h1l  ⊢
        have hngp : w.heap.size + 1 < gp := h1l
        clear hsz h1l
        refine wpAnyH_ready (rs := [5, 7]) (by kernel_rfl) (by simp) ?_
        exact (AllReadyH.cons rfl (fun K hK => by
          go_simp
          go_at_call 11
          refine (HP2.out _).mono ?_
          rintro e c5 ⟨rfl, hcb⟩
          have hP := hP.below hcb hP.lt
          refine hK.out _ _ ⟨hS.1.below hcb hS.1.lt, hS.2.1.below hcb hS.2.1.lt, hS.2.2.trans (hcb.mono hS.2.2.size)⟩ fun hS => ?_
          try simp only [Act.put, List.getElem_toArray, List.getElem_cons_zero, List.getElem_cons_succ, List.setIfInBounds_toArray, List.set_cons_zero, List.set_cons_succ]
          clear hcb
          refine wpAnyH_ready (rs := [7]) (by kernel_rfl) (by simp) ?_
          exact (AllReadyH.cons rfl (fun K hK => by
            have hsz := hS.2.2.size
            have h1l := hS.2.1.lt
            have lhP := hP.lt
            have hQ : Row (c5.alloc (.cells (bs (zs 224)) 32)) c5.heap.size (bs (zs 224)) 32 := Row.new _ _ _
            have hP := hP.alloc (.cells (bs (zs 224)) 32)
            go_simp
            refine hK.out _ _ ⟨hS.1.alloc _, hS.2.1.alloc _, hS.2.2.alloc hS.2.2.size _⟩ fun hS => ?_
            try simp only [Act.put, List.getElem_toArray, List.getElem_cons_zero, List.getElem_cons_succ, List.setIfInBounds_toArray, List.set_cons_zero, List.set_cons_succ]
            generalize c5.alloc (.cells (bs (zs 224)) 32) = x7 at hQ hP hS ⊢
            generalize c5.heap.size = gq at hQ hsz h1l lhP ⊢
            have hngq : w.heap.size + 1 < gq := h1l
            have hne : gp ≠ gq := by omega
            clear hsz h1l
            refine wpAnyH_ready (rs := [8]) (by kernel_rfl) (by simp) ?_
            exact (AllReadyH.cons rfl (fun K hK => step_store rfl 32 (.tmp 9) (.tmp 17) rfl gp R1 rfl rfl 32 _ hP 224 size32 (by rw [bs_size, zs_length]) hl1 (hK.out _ _ ⟨hS.1.other (by omega) _, hS.2.1.other (by omega) _, below_setRow hS.2.2 (by omega) _⟩ fun hS => by
              try simp only [Act.put, List.getElem_toArray, List.getElem_cons_zero, List.getElem_cons_succ, List.setIfInBounds_toArray, List.set_cons_zero, List.set_cons_succ]
              have hP := hP.set (bs R1)
              have hQ := hQ.other (g := gp) (by omega) (bs R1)
              refine wpAnyH_ready (rs := [9]) (by kernel_rfl) (by simp) ?_
              exact (AllReadyH.cons rfl (fun K hK => step_store rfl 32 (.tmp 10) (.tmp 20) rfl gq R2 rfl rfl 32 _ hQ 224 size32 (by rw [bs_size, zs_length]) hl2 (hK.out _ _ ⟨hS.1.other (by omega) _, hS.2.1.other (by omega) _, below_setRow hS.2.2 (by omega) _⟩ fun hS => by
                try simp only [Act.put, List.getElem_toArray, List.getElem_cons_zero, List.getElem_cons_succ, List.setIfInBounds_toArray, List.set_cons_zero, List.set_cons_succ]
                have hP := hP.other (g := gq) (by omega) (bs R2)
                have hQ := hQ.set (bs R2)
                refine wpAnyH_done (by kernel_rfl) ?_ _
                go_wp2
                go_meet
                exact ⟨gp, gq, rfl, rfl, hP, hQ, hS.1, hS.2.1, hS.2.2⟩)) AllReadyH.nil)
            )) AllReadyH.nil)
          ) AllReadyH.nil)
        ) (AllReadyH.cons rfl (fun K hK => by
          have hsz := hS.2.2.size
          have h1l := hS.2.1.lt
          have lhP := hP.lt
          have hQ : Row (x6.alloc (.cells (bs (zs 224)) 32)) x6.heap.size (bs (zs 224)) 32 := Row.new _ _ _
          have hP := hP.alloc (.cells (bs (zs 224)) 32)
          go_simp
          refine hK.out _ _ ⟨hS.1.alloc _, hS.2.1.alloc _, hS.2.2.alloc hS.2.2.size _⟩ fun hS => ?_
          try simp only [Act.put, List.getElem_toArray, List.getElem_cons_zero, List.getElem_cons_succ, List.setIfInBounds_toArray, List.set_cons_zero, List.set_cons_succ]
          generalize x6.alloc (.cells (bs (zs 224)) 32) = x7 at hQ hP hS ⊢
          generalize x6.heap.size = gq at hQ hsz h1l lhP ⊢
          have hngq : w.heap.size + 1 < gq := h1l
          have hne : gp ≠ gq := by omega
          clear hsz h1l
          refine wpAnyH_ready (rs := [5]) (by kernel_rfl) (by simp) ?_
          exact (AllReadyH.cons rfl (fun K hK => by
            go_simp
            go_at_call 11
            refine (HP2.out _).mono ?_
            rintro e c5 ⟨rfl, hcb⟩
            have hP := hP.below hcb hP.lt
            have hQ := hQ.below hcb hQ.lt
            refine hK.out _ _ ⟨hS.1.below hcb hS.1.lt, hS.2.1.below hcb hS.2.1.lt, hS.2.2.trans (hcb.mono hS.2.2.size)⟩ fun hS => ?_
            try simp only [Act.put, List.getElem_toArray, List.getElem_cons_zero, List.getElem_cons_succ, List.setIfInBounds_toArray, List.set_cons_zero, List.set_cons_succ]
            clear hcb
            refine wpAnyH_ready (rs := [8]) (by kernel_rfl) (by simp) ?_
            exact (AllReadyH.cons rfl (fun K hK => step_store rfl 32 (.tmp 9) (.tmp 17) rfl gp R1 rfl rfl 32 _ hP 224 size32 (by rw [bs_size, zs_length]) hl1 (hK.out _ _ ⟨hS.1.other (by omega) _, hS.2.1.other (by omega) _, below_setRow hS.2.2 (by omega) _⟩ fun hS => by
              try simp only [Act.put, List.getElem_toArray, List.getElem_cons_zero, List.getElem_cons_succ, List.setIfInBounds_toArray, List.set_cons_zero, List.set_cons_succ]
              have hP := hP.set (bs R1)
              have hQ := hQ.other (g := gp) (by omega) (bs R1)
              refine wpAnyH_ready (rs := [9]) (by kernel_rfl) (by simp) ?_
              exact (AllReadyH.cons rfl (fun K hK => step_store rfl 32 (.tmp 10) (.tmp 20) rfl gq R2 rfl rfl 32 _ hQ 224 size32 (by rw [bs_size, zs_length]) hl2 (hK.out _ _ ⟨hS.1.other (by omega) _, hS.2.1.other (by omega) _, below_setRow hS.2.2 (by omega) _⟩ fun hS => by
                try simp only [Act.put, List.getElem_toArray, List.getElem_cons_zero, List.getElem_cons_succ, List.setIfInBounds_toArray, List.set_cons_zero, List.set_cons_succ]
                have hP := hP.other (g := gq) (by omega) (bs R2)
                have hQ := hQ.set (bs R2)
                refine wpAnyH_done (by kernel_rfl) ?_ _
                go_wp2
                go_meet
                exact ⟨gp, gq, rfl, rfl, hP, hQ, hS.1, hS.2.1, hS.2.2⟩)) AllReadyH.nil)
            )) AllReadyH.nil)
          ) AllReadyH.nil)
        ) AllReadyH.nil))
      ) (AllReadyH.cons rfl (fun K hK => by
        have hsz := hS.2.2.size
        have h1l := hS.2.1.lt
        have hQ : Row (c2.alloc (.cells (bs (zs 224)) 32)) c2.heap.size (bs (zs 224)) 32 := Row.new _ _ _
        go_simp
        refine hK.out _ _ ⟨hS.1.alloc _, hS.2.1.alloc _, hS.2.2.alloc hS.2.2.size _⟩ fun hS => ?_
        try simp only [Act.put, List.getElem_toArray, List.getElem_cons_zero, List.getElem_cons_succ, List.setIfInBounds_toArray, List.set_cons_zero, List.set_cons_succ]
        generalize c2.alloc (.cells (bs (zs 224)) 32) = x7 at hQ  hS ⊢
        generalize c2.heap.size = gq at hQ hsz h1l  ⊢
        have hngq : w.heap.size + 1 < gq := h1l
        clear hsz h1l
        refine wpAnyH_ready (rs := [5, 6]) (by kernel_rfl) (by simp) ?_
        exact (AllReadyH.cons rfl (fun K hK => by
          go_simp
          go_at_call 11
          refine (HP2.out _).mono ?_
          rintro e c5 ⟨rfl, hcb⟩
          have hQ := hQ.below hcb hQ.lt
          refine hK.out _ _ ⟨hS.1.below hcb hS.1.lt, hS.2.1.below hcb hS.2.1.lt, hS.2.2.trans (hcb.mono hS.2.2.size)⟩ fun hS => ?_
          try simp only [Act.put, List.getElem_toArray, List.getElem_cons_zero, List.getElem_cons_succ, List.setIfInBounds_toArray, List.set_cons_zero, List.set_cons_succ]
          clear hcb
          refine wpAnyH_ready (rs := [6]) (by kernel_rfl) (by simp) ?_
          exact (AllReadyH.cons rfl (fun K hK => by
            have hsz := hS.2.2.size
            have h1l := hS.2.1.lt
            have lhQ := hQ.lt
            have hP : Row (c5.alloc (.cells (bs (zs 224)) 32)) c5.heap.size (bs (zs 224)) 32 := Row.new _ _ _
            have hQ := hQ.alloc (.cells (bs (zs 224)) 32)
            go_simp
            refine hK.out _ _ ⟨hS.1.alloc _, hS.2.1.alloc _, hS.2.2.alloc hS.2.2.size _⟩ fun hS => ?_
            try simp only [Act.put, List.getElem_toArray, List.getElem_cons_zero, List.getElem_cons_succ, List.setIfInBounds_toArray, List.set_cons_zero, List.set_cons_succ]
            generalize c5.alloc (.cells (bs (zs 224)) 32) = x6 at hP hQ hS ⊢
            generalize c5.heap.size = gp at hP hsz h1l lhQ ⊢
            have hngp : w.heap.size + 1 < gp := h1l
            have hne : gp ≠ gq := by omega
            clear hsz h1l
            refine wpAnyH_ready (rs := [8]) (by kernel_rfl) (by simp) ?_
            exact (AllReadyH.cons rfl (fun K hK => step_store rfl 32 (.tmp 9) (.tmp 17) rfl gp R1 rfl rfl 32 _ hP 224 size32 (by rw [bs_size, zs_length]) hl1 (hK.out _ _ ⟨hS.1.other (by omega) _, hS.2.1.other (by omega) _, below_setRow hS.2.2 (by omega) _⟩ fun hS => by
              try simp only [Act.put, List.getElem_toArray, List.getElem_cons_zero, List.getElem_cons_succ, List.setIfInBounds_toArray, List.set_cons_zero, List.set_cons_succ]
              have hP := hP.set (bs R1)
              have hQ := hQ.other (g := gp) (by omega) (bs R1)
              refine wpAnyH_ready (rs := [9]) (by kernel_rfl) (by simp) ?_
              exact (AllReadyH.cons rfl (fun K hK => step_store rfl 32 (.tmp 10) (.tmp 20) rfl gq R2 rfl rfl 32 _ hQ 224 size32 (by rw [bs_size, zs_length]) hl2 (hK.out _ _ ⟨hS.1.other (by omega) _, hS.2.1.other (by omega) _, below_setRow hS.2.2 (by omega) _⟩ fun hS => by
                try simp only [Act.put, List.getElem_toArray, List.getElem_cons_zero, List.getElem_cons_succ, List.setIfInBounds_toArray, List.set_cons_zero, List.set_cons_succ]
                have hP := hP.other (g := gq) (by omega) (bs R2)
                have hQ := hQ.set (bs R2)
                refine wpAnyH_done (by kernel_rfl) ?_ _
                go_wp2
                go_meet
                exact ⟨gp, gq, rfl, rfl, hP, hQ, hS.1, hS.2.1, hS.2.2⟩)) AllReadyH.nil)
            )) AllReadyH.nil)
          ) AllReadyH.nil)
        ) (AllReadyH.cons rfl (fun K hK => by
          have hsz := hS.2.2.size
          have h1l := hS.2.1.lt
          have lhQ := hQ.lt
          have hP : Row (x7.alloc (.cells (bs (zs 224)) 32)) x7.heap.size (bs (zs 224)) 32 := Row.new _ _ _
          have hQ := hQ.alloc (.cells (bs (zs 224)) 32)
          go_simp
          refine hK.out _ _ ⟨hS.1.alloc _, hS.2.1.alloc _, hS.2.2.alloc hS.2.2.size _⟩ fun hS => ?_
          try simp only [Act.put, List.getElem_toArray, List.getElem_cons_zero, List.getElem_cons_succ, List.setIfInBounds_toArray, List.set_cons_zero, List.set_cons_succ]
          generalize x7.alloc (.cells (bs (zs 224)) 32) = x6 at hP hQ hS ⊢
          generalize x7.heap.size = gp at hP hsz h1l lhQ ⊢
          have hngp : w.heap.size + 1 < gp := h1l
          have hne : gp ≠ gq := by omega
          clear hsz h1l
          refine wpAnyH_ready (rs := [5]) (by kernel_rfl) (by simp) ?_
          exact (AllReadyH.cons rfl (fun K hK => by
            go_simp
            go_at_call 11
            refine (HP2.out _).mono ?_
            rintro e c5 ⟨rfl, hcb⟩
            have hP := hP.below hcb hP.lt
            have hQ := hQ.below hcb hQ.lt
            refine hK.out _ _ ⟨hS.1.below hcb hS.1.lt, hS.2.1.below hcb hS.2.1.lt, hS.2.2.trans (hcb.mono hS.2.2.size)⟩ fun hS => ?_
            try simp only [Act.put, List.getElem_toArray, List.getElem_cons_zero, List.getElem_cons_succ, List.setIfInBounds_toArray, List.set_cons_zero, List.set_cons_succ]
            clear hcb
            refine wpAnyH_ready (rs := [8]) (by kernel_rfl) (by simp) ?_
            exact (AllReadyH.cons rfl (fun K hK => step_store rfl 32 (.tmp 9) (.tmp 17) rfl gp R1 rfl rfl 32 _ hP 224 size32 (by rw [bs_size, zs_length]) hl1 (hK.out _ _ ⟨hS.1.other (by omega) _, hS.2.1.other (by omega) _, below_setRow hS.2.2 (by omega) _⟩ fun hS => by
              try simp only [Act.put, List.getElem_toArray, List.getElem_cons_zero, List.getElem_cons_succ, List.setIfInBounds_toArray, List.set_cons_zero, List.set_cons_succ]
              have hP := hP.set (bs R1)
              have hQ := hQ.other (g := gp) (by omega) (bs R1)
              refine wpAnyH_ready (rs := [9]) (by kernel_rfl) (by simp) ?_
              exact (AllReadyH.cons rfl (fun K hK => step_store rfl 32 (.tmp 10) (.tmp 20) rfl gq R2 rfl rfl 32 _ hQ 224 size32 (by rw [bs_size, zs_length]) hl2 (hK.out _ _ ⟨hS.1.other (by omega) _, hS.2.1.other (by omega) _, below_setRow hS.2.2 (by omega) _⟩ fun hS => by
                try simp only [Act.put, List.getElem_toArray, List.getElem_cons_zero, List.getElem_cons_succ, List.setIfInBounds_toArray, List.set_cons_zero, List.set_cons_succ]
                have hP := hP.other (g := gq) (by omega) (bs R2)
                have hQ := hQ.set (bs R2)
                refine wpAnyH_done (by kernel_rfl) ?_ _
                go_wp2
                go_meet
                exact ⟨gp, gq, rfl, rfl, hP, hQ, hS.1, hS.2.1, hS.2.2⟩)) AllReadyH.nil)
            )) AllReadyH.nil)
          ) AllReadyH.nil)
        ) AllReadyH.nil))
      ) AllReadyH.nil)))
    ) (AllReadyH.cons rfl (fun K hK => by
      have hsz := hS.2.2.size
      have h1l := hS.2.1.lt
      have hP : Row (wd.alloc (.cells (bs (zs 224)) 32)) wd.heap.size (bs (zs 224)) 32 := Row.new _ _ _
      go_simp
      refine hK.out _ _ ⟨hS.1.alloc _, hS.2.1.alloc _, hS.2.2.alloc hS.2.2.size _⟩ fun hS => ?_
      try simp only [Act.put, List.getElem_toArray, List.getElem_cons_zero, List.getElem_cons_succ, List.setIfInBounds_toArray, List.set_cons_zero, List.set_cons_succ]
      generalize wd.alloc (.cells (bs (zs 224)) 32) = x6 at hP  hS ⊢
      generalize wd.heap.size = gp at hP hsz h1l  ⊢
      have hngp : w.heap.size + 1 < gp := h1l
      clear hsz h1l
      refine wpAnyH_ready (rs := [2, 7]) (by kernel_rfl) (by simp) ?_
      exact (AllReadyH.cons rfl (fun K hK => by
        go_simp
        go_at_call 11
        refine (HP1.out _).mono ?_
        rintro e c2 ⟨rfl, hcb⟩
        have hP := hP.below hcb hP.lt
        refine hK.out _ _ ⟨hS.1.below hcb hS.1.lt, hS.2.1.below hcb hS.2.1.lt, hS.2.2.trans (hcb.mono hS.2.2.size)⟩ fun hS => ?_
        try simp only [Act.put, List.getElem_toArray, List.getElem_cons_zero, List.getElem_cons_succ, List.setIfInBounds_toArray, List.set_cons_zero, List.set_cons_succ]
        clear hcb
        refine wpAnyH_ready (rs := [5, 7]) (by kernel_rfl) (by simp) ?_
        exact (AllReadyH.cons rfl (fun K hK => by
          go_simp
          go_at_call 11
          refine (HP2.out _).mono ?_
          rintro e c5 ⟨rfl, hcb⟩
          have hP := hP.below hcb hP.lt
          refine hK.out _ _ ⟨hS.1.below hcb hS.1.lt, hS.2.1.below hcb hS.2.1.lt, hS.2.2.trans (hcb.mono hS.2.2.size)⟩ fun hS => ?_
          try simp only [Act.put, List.getElem_toArray, List.getElem_cons_zero, List.getElem_cons_succ, List.setIfInBounds_toArray, List.set_cons_zero, List.set_cons_succ]
          clear hcb
          refine wpAnyH_ready (rs := [7]) (by kernel_rfl) (by simp) ?_
          exact (AllReadyH.cons rfl (fun K hK => by
            have hsz := hS.2.2.size
            have h1l := hS.2.1.lt
            have lhP := hP.lt
            have hQ : Row (c5.alloc (.cells (bs (zs 224)) 32)) c5.heap.size (bs (zs 224)) 32 := Row.new _ _ _
            have hP := hP.alloc (.cells (bs (zs 224)) 32)
            go_simp
            refine hK.out _ _ ⟨hS.1.alloc _, hS.2.1.alloc _, hS.2.2.alloc hS.2.2.size _⟩ fun hS => ?_
            try simp only [Act.put, List.getElem_toArray, List.getElem_cons_zero, List.getElem_cons_succ, List.setIfInBounds_toArray, List.set_cons_zero, List.set_cons_succ]
            generalize c5.alloc (.cells (bs (zs 224)) 32) = x7 at hQ hP hS ⊢
            generalize c5.heap.size = gq at hQ hsz h1l lhP ⊢
            have hngq : w.heap.size + 1 < gq := h1l
            have hne : gp ≠ gq := by omega
            clear hsz h1l
            refine wpAnyH_ready (rs := [8]) (by kernel_rfl) (by simp) ?_
            exact (AllReadyH.cons rfl (fun K hK => step_store rfl 32 (.tmp 9) (.tmp 17) rfl gp R1 rfl rfl 32 _ hP 224 size32 (by rw [bs_size, zs_length]) hl1 (hK.out _ _ ⟨hS.1.other (by omega) _, hS.2.1.other (by omega) _, below_setRow hS.2.2 (by omega) _⟩ fun hS => by
              try simp only [Act.put, List.getElem_toArray, List.getElem_cons_zero, List.getElem_cons_succ, List.setIfInBounds_toArray, List.set_cons_zero, List.set_cons_succ]
              have hP := hP.set (bs R1)
              have hQ := hQ.other (g := gp) (by omega) (bs R1)
              refine wpAnyH_ready (rs := [9]) (by kernel_rfl) (by simp) ?_
              exact (AllReadyH.cons rfl (fun K hK => step_store rfl 32 (.tmp 10) (.tmp 20) rfl gq R2 rfl rfl 32 _ hQ 224 size32 (by rw [bs_size, zs_length]) hl2 (hK.out _ _ ⟨hS.1.other (by omega) _, hS.2.1.other (by omega) _, below_setRow hS.2.2 (by omega) _⟩ fun hS => by
                try simp only [Act.put, List.getElem_toArray, List.getElem_cons_zero, List.getElem_cons_succ, List.setIfInBounds_toArray, List.set_cons_zero, List.set_cons_succ]
                have hP := hP.other (g := gq) (by omega) (bs R2)
                have hQ := hQ.set (bs R2)
                refine wpAnyH_done (by kernel_rfl) ?_ _
                go_wp2
                go_meet
                exact ⟨gp, gq, rfl, rfl, hP, hQ, hS.1, hS.2.1, hS.2.2⟩)) AllReadyH.nil)
            )) AllReadyH.nil)
          ) AllReadyH.nil)
        ) (AllReadyH.cons rfl (fun K hK => by
          have hsz := hS.2.2.size
          have h1l := hS.2.1.lt
          have lhP := hP.lt
          have hQ : Row (c2.alloc (.cells (bs (zs 224)) 32)) c2.heap.size (bs (zs 224)) 32 := Row.new _ _ _
          have hP := hP.alloc (.cells (bs (zs 224)) 32)
          go_simp
          refine hK.out _ _ ⟨hS.1.alloc _, hS.2.1.alloc _, hS.2.2.alloc hS.2.2.size _⟩ fun hS => ?_
          try simp only [Act.put, List.getElem_toArray, List.getElem_cons_zero, List.getElem_cons_succ, List.setIfInBounds_toArray, List.set_cons_zero, List.set_cons_succ]
          generalize c2.alloc (.cells (bs (zs 224)) 32) = x7 at hQ hP hS ⊢
          generalize c2.heap.size = gq at hQ hsz h1l lhP ⊢
          have hngq : w.heap.size + 1 < gq := h1l
          have hne : gp ≠ gq := by omega
          clear hsz h1l
          refine wpAnyH_ready (rs := [5]) (by kernel_rfl) (by simp) ?_
          exact (AllReadyH.cons rfl (fun K hK => by
            go_simp
            go_at_call 11
            refine (HP2.out _).mono ?_
            rintro e c5 ⟨rfl, hcb⟩
            have hP := hP.below hcb hP.lt
            have hQ := hQ.below hcb hQ.lt
            refine hK.out _ _ ⟨hS.1.below hcb hS.1.lt, hS.2.1.below hcb hS.2.1.lt, hS.2.2.trans (hcb.mono hS.2.2.size)⟩ fun hS => ?_
            try simp only [Act.put, List.getElem_toArray, List.getElem_cons_zero, List.getElem_cons_succ, List.setIfInBounds_toArray, List.set_cons_zero, List.set_cons_succ]
            clear hcb
            refine wpAnyH_ready (rs := [8]) (by kernel_rfl) (by simp) ?_
            exact (AllReadyH.cons rfl (fun K hK => step_store rfl 32 (.tmp 9) (.tmp 17) rfl gp R1 rfl rfl 32 _ hP 224 size32 (by rw [bs_size, zs_length]) hl1 (hK.out _ _ ⟨hS.1.other (by omega) _, hS.2.1.other (by omega) _, below_setRow hS.2.2 (by omega) _⟩ fun hS => by
              try simp only [Act.put, List.getElem_toArray, List.getElem_cons_zero, List.getElem_cons_succ, List.setIfInBounds_toArray, List.set_cons_zero, List.set_cons_succ]
              have hP := hP.set (bs R1)
              have hQ := hQ.other (g := gp) (by omega) (bs R1)
              refine wpAnyH_ready (rs := [9]) (by kernel_rfl) (by simp) ?_
              exact (AllReadyH.cons rfl (fun K hK => step_store rfl 32 (.tmp 10) (.tmp 20) rfl gq R2 rfl rfl 32 _ hQ 224 size32 (by rw [bs_size, zs_length]) hl2 (hK.out _ _ ⟨hS.1.other (by omega) _, hS.2.1.other (by omega) _, below_setRow hS.2.2 (by omega) _⟩ fun hS => by
                try simp only [Act.put, List.getElem_toArray, List.getElem_cons_zero, List.getElem_cons_succ, List.setIfInBounds_toArray, List.set_cons_zero, List.set_cons_succ]
                have hP := hP.other (g := gq) (by omega) (bs R2)
                have hQ := hQ.set (bs R2)
                refine wpAnyH_done (by kernel_rfl) ?_ _
                go_wp2
                go_meet
                exact ⟨gp, gq, rfl, rfl, hP, hQ, hS.1, hS.2.1, hS.2.2⟩)) AllReadyH.nil)
            )) AllReadyH.nil)
          ) AllReadyH.nil)
        ) AllReadyH.nil))
      ) (AllReadyH.cons rfl (fun K hK => by
        have hsz := hS.2.2.size
        have h1l := hS.2.1.lt
        have lhP := hP.lt
        have hQ : Row (x6.alloc (.cells (bs (zs 224)) 32)) x6.heap.size (bs (zs 224)) 32 := Row.new _ _ _
        have hP := hP.alloc (.cells (bs (zs 224)) 32)
        go_simp
        refine hK.out _ _ ⟨hS.1.alloc _, hS.2.1.alloc _, hS.2.2.alloc hS.2.2.size _⟩ fun hS => ?_
        try simp only [Act.put, List.getElem_toArray, List.getElem_cons_zero, List.getElem_cons_succ, List.setIfInBounds_toArray, List.set_cons_zero, List.set_cons_succ]
        generalize x6.alloc (.cells (bs (zs 224)) 32) = x7 at hQ hP hS ⊢
        generalize x6.heap.size = gq at hQ hsz h1l lhP ⊢
        have hngq : w.heap.size + 1 < gq := h1l
        have hne : gp ≠ gq := by omega
        clear hsz h1l
        refine wpAnyH_ready (rs := [2]) (by kernel_rfl) (by simp) ?_
        exact (AllReadyH.cons rfl (fun K hK => by
          go_simp
          go_at_call 11
          refine (HP1.out _).mono ?_
          rintro e c2 ⟨rfl, hcb⟩
          have hP := hP.below hcb hP.lt
          have hQ := hQ.below hcb hQ.lt
          refine hK.out _ _ ⟨hS.1.below hcb hS.1.lt, hS.2.1.below hcb hS.2.1.lt, hS.2.2.trans (hcb.mono hS.2.2.size)⟩ fun hS => ?_
          try simp only [Act.put, List.getElem_toArray, List.getElem_cons_zero, List.getElem_cons_succ, List.setIfInBounds_toArray, List.set_cons_zero, List.set_cons_succ]
          clear hcb
          refine wpAnyH_ready (rs := [5]) (by kernel_rfl) (by simp) ?_
          exact (AllReadyH.cons rfl (fun K hK => by
            go_simp
            go_at_call 11
            refine (HP2.out _).mono ?_
            rintro e c5 ⟨rfl, hcb⟩
            have hP := hP.below hcb hP.lt
            have hQ := hQ.below hcb hQ.lt
            refine hK.out _ _ ⟨hS.1.below hcb hS.1.lt, hS.2.1.below hcb hS.2.1.lt, hS.2.2.trans (hcb.mono hS.2.2.size)⟩ fun hS => ?_
            try simp only [Act.put, List.getElem_toArray, List.getElem_cons_zero, List.getElem_cons_succ, List.setIfInBounds_toArray, List.set_cons_zero, List.set_cons_succ]
            clear hcb
            refine wpAnyH_ready (rs := [8]) (by kernel_rfl) (by simp) ?_
            exact (AllReadyH.cons rfl (fun K hK => step_store rfl 32 (.tmp 9) (.tmp 17) rfl gp R1 rfl rfl 32 _ hP 224 size32 (by rw [bs_size, zs_length]) hl1 (hK.out _ _ ⟨hS.1.other (by omega) _, hS.2.1.other (by omega) _, below_setRow hS.2.2 (by omega) _⟩ fun hS => by
              try simp only [Act.put, List.getElem_toArray, List.getElem_cons_zero, List.getElem_cons_succ, List.setIfInBounds_toArray, List.set_cons_zero, List.set_cons_succ]
              have hP := hP.set (bs R1)
              have hQ := hQ.other (g := gp) (by omega) (bs R1)
              refine wpAnyH_ready (rs := [9]) (by kernel_rfl) (by simp) ?_
              exact (AllReadyH.cons rfl (fun K hK => step_store rfl 32 (.tmp 10) (.tmp 20) rfl gq R2 rfl rfl 32 _ hQ 224 size32 (by rw [bs_size, zs_length]) hl2 (hK.out _ _ ⟨hS.1.other (by omega) _, hS.2.1.other (by omega) _, below_setRow hS.2.2 (by omega) _⟩ fun hS => by
                try simp only [Act.put, List.getElem_toArray, List.getElem_cons_zero, List.getElem_cons_succ, List.setIfInBounds_toArray, List.set_cons_zero, List.set_cons_succ]
                have hP := hP.other (g := gq) (by omega) (bs R2)
                have hQ := hQ.set (bs R2)
                refine wpAnyH_done (by kernel_rfl) ?_ _
                go_wp2
                go_meet
                exact ⟨gp, gq, rfl, rfl, hP, hQ, hS.1, hS.2.1, hS.2.2⟩)) AllReadyH.nil)
            )) AllReadyH.nil)
          ) AllReadyH.nil)
        ) AllReadyH.nil)
      ) AllReadyH.nil))
    ) (AllReadyH.cons rfl (fun K hK => by
      have hsz := hS.2.2.size
      have h1l := hS.2.1.lt
      have hQ : Row (wd.alloc (.cells (bs (zs 224)) 32)) wd.heap.size (bs (zs 224)) 32 := Row.new _ _ _
      go_simp
      refine hK.out _ _ ⟨hS.1.alloc _, hS.2.1.alloc _, hS.2.2.alloc hS.2.2.size _⟩ fun hS => ?_
      try simp only [Act.put, List.getElem_toArray, List.getElem_cons_zero, List.getElem_cons_succ, List.setIfInBounds_toArray, List.set_cons_zero, List.set_cons_succ]
      generalize wd.alloc (.cells (bs (zs 224)) 32) = x7 at hQ  hS ⊢
      generalize wd.heap.size = gq at hQ hsz h1l  ⊢
      have hngq : w.heap.size + 1 < gq := h1l
      clear hsz h1l
      refine wpAnyH_ready (rs := [2, 6]) (by kernel_rfl) (by simp) ?_
      exact (AllReadyH.cons rfl (fun K hK => by
        go_simp
        go_at_call 11
        refine (HP1.out _).mono ?_
        rintro e c2 ⟨rfl, hcb⟩
        have hQ := hQ.below hcb hQ.lt
        refine hK.out _ _ ⟨hS.1.below hcb hS.1.lt, hS.2.1.below hcb hS.2.1.lt, hS.2.2.trans (hcb.mono hS.2.2.size)⟩ fun hS => ?_
        try simp only [Act.put, List.getElem_toArray, List.getElem_cons_zero, List.getElem_cons_succ, List.setIfInBounds_toArray, List.set_cons_zero, List.set_cons_succ]
        clear hcb
        refine wpAnyH_ready (rs := [5, 6]) (by kernel_rfl) (by simp) ?_
        exact (AllReadyH.cons rfl (fun K hK => by
          go_simp
          go_at_call 11
          refine (HP2.out _).mono ?_
          rintro e c5 ⟨rfl, hcb⟩
          have hQ := hQ.below hcb hQ.lt
          refine hK.out _ _ ⟨hS.1.below hcb hS.1.lt, hS.2.1.below hcb hS.2.1.lt, hS.2.2.trans (hcb.mono hS.2.2.size)⟩ fun hS => ?_
          try simp only [Act.put, List.getElem_toArray, List.getElem_cons_zero, List.getElem_cons_succ, List.setIfInBounds_toArray, List.set_cons_zero, List.set_cons_succ]
          clear hcb
          refine wpAnyH_ready (rs := [6]) (by kernel_rfl) (by simp) ?_
          exact (AllReadyH.cons rfl (fun K hK => by
            have hsz := hS.2.2.size
            have h1l := hS.2.1.lt
            have lhQ := hQ.lt
            have hP : Row (c5.alloc (.cells (bs (zs 224)) 32)) c5.heap.size (bs (zs 224)) 32 := Row.new _ _ _
            have hQ := hQ.alloc (.cells (bs (zs 224)) 32)
            go_simp
            refine hK.out _ _ ⟨hS.1.alloc _, hS.2.1.alloc _, hS.2.2.alloc hS.2.2.size _⟩ fun hS => ?_
            try simp only [Act.put, List.getElem_toArray, List.getElem_cons_zero, List.getElem_cons_succ, List.setIfInBounds_toArray, List.set_cons_zero, List.set_cons_succ]
            generalize c5.alloc (.cells (bs (zs 224)) 32) = x6 at hP hQ hS ⊢
            generalize c5.heap.size = gp at hP hsz h1l lhQ ⊢
            have hngp : w.heap.size + 1 < gp := h1l
            have hne : gp ≠ gq := by omega
            clear hsz h1l
            refine wpAnyH_ready (rs := [8]) (by kernel_rfl) (by simp) ?_
            exact (AllReadyH.cons rfl (fun K hK => step_store rfl 32 (.tmp 9) (.tmp 17) rfl gp R1 rfl rfl 32 _ hP 224 size32 (by rw [bs_size, zs_length]) hl1 (hK.out _ _ ⟨hS.1.other (by omega) _, hS.2.1.other (by omega) _, below_setRow hS.2.2 (by omega) _⟩ fun hS => by
              try simp only [Act.put, List.getElem_toArray, List.getElem_cons_zero, List.getElem_cons_succ, List.setIfInBounds_toArray, List.set_cons_zero, List.set_cons_succ]
              have hP := hP.set (bs R1)
              have hQ := hQ.other (g := gp) (by omega) (bs R1)
              refine wpAnyH_ready (rs := [9]) (by kernel_rfl) (by simp) ?_
              exact (AllReadyH.cons rfl (fun K hK => step_store rfl 32 (.tmp 10) (.tmp 20) rfl gq R2 rfl rfl 32 _ hQ 224 size32 (by rw [bs_size, zs_length]) hl2 (hK.out _ _ ⟨hS.1.other (by omega) _, hS.2.1.other (by omega) _, below_setRow hS.2.2 (by omega) _⟩ fun hS => by
                try simp only [Act.put, List.getElem_toArray, List.getElem_cons_zero, List.getElem_cons_succ, List.setIfInBounds_toArray, List.set_cons_zero, List.set_cons_succ]
                have hP := hP.other (g := gq) (by omega) (bs R2)
                have hQ := hQ.set (bs R2)
                refine wpAnyH_done (by kernel_rfl) ?_ _
                go_wp2
                go_meet
                exact ⟨gp, gq, rfl, rfl, hP, hQ, hS.1, hS.2.1, hS.2.2⟩)) AllReadyH.nil)
            )) AllReadyH.nil)
          ) AllReadyH.nil)
        ) (AllReadyH.cons rfl (fun K hK => by
          have hsz := hS.2.2.size
          have h1l := hS.2.1.lt
          have lhQ := hQ.lt
          have hP : Row (c2.alloc (.cells (bs (zs 224)) 32)) c2.heap.size (bs (zs 224)) 32 := Row.new _ _ _
          have hQ := hQ.alloc (.cells (bs (zs 224)) 32)
          go_simp
          refine hK.out _ _ ⟨hS.1.alloc _, hS.2.1.alloc _, hS.2.2.alloc hS.2.2.size _⟩ fun hS => ?_
          try simp only [Act.put, List.getElem_toArray, List.getElem_cons_zero, List.getElem_cons_succ, List.setIfInBounds_toArray, List.set_cons_zero, List.set_cons_succ]
          generalize c2.alloc (.cells (bs (zs 224)) 32) = x6 at hP hQ hS ⊢
          generalize c2.heap.size = gp at hP hsz h1l lhQ ⊢
          have hngp : w.heap.size + 1 < gp := h1l
          have hne : gp ≠ gq := by omega
          clear hsz h1l
          refine wpAnyH_ready (rs := [5]) (by kernel_rfl) (by simp) ?_
          exact (AllReadyH.cons rfl (fun K hK => by
            go_simp
            go_at_call 11
            refine (HP2.out _).mono ?_
            rintro e c5 ⟨rfl, hcb⟩
            have hP := hP.below hcb hP.lt
            have hQ := hQ.below hcb hQ.lt
            refine hK.out _ _ ⟨hS.1.below hcb hS.1.lt, hS.2.1.below hcb hS.2.1.lt, hS.2.2.trans (hcb.mono hS.2.2.size)⟩ fun hS => ?_
            try simp only [Act.put, List.getElem_toArray, List.getElem_cons_zero, List.getElem_cons_succ, List.setIfInBounds_toArray, List.set_cons_zero, List.set_cons_succ]
            clear hcb
            refine wpAnyH_ready (rs := [8]) (by kernel_rfl) (by simp) ?_
            exact (AllReadyH.cons rfl (fun K hK => step_store rfl 32 (.tmp 9) (.tmp 17) rfl gp R1 rfl rfl 32 _ hP 224 size32 (by rw [bs_size, zs_length]) hl1 (hK.out _ _ ⟨hS.1.other (by omega) _, hS.2.1.other (by omega) _, below_setRow hS.2.2 (by omega) _⟩ fun hS => by
              try simp only [Act.put, List.getElem_toArray, List.getElem_cons_zero, List.getElem_cons_succ, List.setIfInBounds_toArray, List.set_cons_zero, List.set_cons_succ]
              have hP := hP.set (bs R1)
              have hQ := hQ.other (g := gp) (by omega) (bs R1)
              refine wpAnyH_ready (rs := [9]) (by kernel_rfl) (by simp) ?_
              exact (AllReadyH.cons rfl (fun K hK => step_store rfl 32 (.tmp 10) (.tmp 20) rfl gq R2 rfl rfl 32 _ hQ 224 size32 (by rw [bs_size, zs_length]) hl2 (hK.out _ _ ⟨hS.1.other (by omega) _, hS.2.1.other (by omega) _, below_setRow hS.2.2 (by omega) _⟩ fun hS => by
                try simp only [Act.put, List.getElem_toArray, List.getElem_cons_zero, List.getElem_cons_succ, List.setIfInBounds_toArray, List.set_cons_zero, List.set_cons_succ]
                have hP := hP.other (g := gq) (by omega) (bs R2)
                have hQ := hQ.set (bs R2)
                refine wpAnyH_done (by kernel_rfl) ?_ _
                go_wp2
                go_meet
                exact ⟨gp, gq, rfl, rfl, hP, hQ, hS.1, hS.2.1, hS.2.2⟩)) AllReadyH.nil)
            )) AllReadyH.nil)
          ) AllReadyH.nil)
        ) AllReadyH.nil))
      ) (AllReadyH.cons rfl (fun K hK => by
        have hsz := hS.2.2.size
        have h1l := hS.2.1.lt
        have lhQ := hQ.lt
        have hP : Row (x7.alloc (.cells (bs (zs 224)) 32)) x7.heap.size (bs (zs 224)) 32 := Row.new _ _ _
        have hQ := hQ.alloc (.cells (bs (zs 224)) 32)
        go_simp
        refine hK.out _ _ ⟨hS.1.alloc _, hS.2.1.alloc _, hS.2.2.alloc hS.2.2.size _⟩ fun hS => ?_
        try simp only [Act.put, List.getElem_toArray, List.getElem_cons_zero, List.getElem_cons_succ, List.setIfInBounds_toArray, List.set_cons_zero, List.set_cons_succ]
        generalize x7.alloc (.cells (bs (zs 224)) 32) = x6 at hP hQ hS ⊢
        generalize x7.heap.size = gp at hP hsz h1l lhQ ⊢
        have hngp : w.heap.size + 1 < gp := h1l
        have hne : gp ≠ gq := by omega
        clear hsz h1l
        refine wpAnyH_ready (rs := [2]) (by kernel_rfl) (by simp) ?_
        exact (AllReadyH.cons rfl (fun K hK => by
          go_simp
          go_at_call 11
          refine (HP1.out _).mono ?_
          rintro e c2 ⟨rfl, hcb⟩
          have hP := hP.below hcb hP.lt
          have hQ := hQ.below hcb hQ.lt
          refine hK.out _ _ ⟨hS.1.below hcb hS.1.lt, hS.2.1.below hcb hS.2.1.lt, hS.2.2.trans (hcb.mono hS.2.2.size)⟩ fun hS => ?_
          try simp only [Act.put, List.getElem_toArray, List.getElem_cons_zero, List.getElem_cons_succ, List.setIfInBounds_toArray, List.set_cons_zero, List.set_cons_succ]
          clear hcb
          refine wpAnyH_ready (rs := [5]) (by kernel_rfl) (by simp) ?_
          exact (AllReadyH.cons rfl (fun K hK => by
            go_simp
            go_at_call 11
            refine (HP2.out _).mono ?_
            rintro e c5 ⟨rfl, hcb⟩
            have hP := hP.below hcb hP.lt
            have hQ := hQ.below hcb hQ.lt
            refine hK.out _ _ ⟨hS.1.below hcb hS.1.lt, hS.2.1.below hcb hS.2.1.lt, hS.2.2.trans (hcb.mono hS.2.2.size)⟩ fun hS => ?_
            try simp only [Act.put, List.getElem_toArray, List.getElem_cons_zero, List.getElem_cons_succ, List.setIfInBounds_toArray, List.set_cons_zero, List.set_cons_succ]
            clear hcb
            refine wpAnyH_ready (rs := [8]) (by kernel_rfl) (by simp) ?_
            exact (AllReadyH.cons rfl (fun K hK => step_store rfl 32 (.tmp 9) (.tmp 17) rfl gp R1 rfl rfl 32 _ hP 224 size32 (by rw [bs_size, zs_length]) hl1 (hK.out _ _ ⟨hS.1.other (by omega) _, hS.2.1.other (by omega) _, below_setRow hS.2.2 (by omega) _⟩ fun hS => by
              try simp only [Act.put, List.getElem_toArray, List.getElem_cons_zero, List.getElem_cons_succ, List.setIfInBounds_toArray, List.set_cons_zero, List.set_cons_succ]
              have hP := hP.set (bs R1)
              have hQ := hQ.other (g := gp) (by omega) (bs R1)
              refine wpAnyH_ready (rs := [9]) (by kernel_rfl) (by simp) ?_
              exact (AllReadyH.cons rfl (fun K hK => step_store rfl 32 (.tmp 10) (.tmp 20) rfl gq R2 rfl rfl 32 _ hQ 224 size32 (by rw [bs_size, zs_length]) hl2 (hK.out _ _ ⟨hS.1.other (by omega) _, hS.2.1.other (by omega) _, below_setRow hS.2.2 (by omega) _⟩ fun hS => by
                try simp only [Act.put, List.getElem_toArray, List.getElem_cons_zero, List.getElem_cons_succ, List.setIfInBounds_toArray, List.set_cons_zero, List.set_cons_succ]
                have hP := hP.other (g := gq) (by omega) (bs R2)
                have hQ := hQ.set (bs R2)
                refine wpAnyH_done (by kernel_rfl) ?_ _
                go_wp2
                go_meet
                exact ⟨gp, gq, rfl, rfl, hP, hQ, hS.1, hS.2.1, hS.2.2⟩)) AllReadyH.nil)
            )) AllReadyH.nil)
          ) AllReadyH.nil)
        ) AllReadyH.nil)
      ) AllReadyH.nil))
    ) AllReadyH.nil)))
  case rest =>
    clear r0 r1 ab HP1 HP2
    obtain ⟨gp, gq, rfl, rfl, hP, hQ, h0, h1, hB⟩ := hcut
    by_cases hq : no = on
    · have HE0 : Hid (E = 0) := by
        have := HED.out
        rw [decide_eq_true hq] at this
        show _ = _
        simpa using this
      have heq2 : ∀ w, (Op.equalIn 10000 32 (.agg (bs R1)) (.agg (bs R2))).run Try.prog w = .ok (decide (a = b)) w := by
        intro w; have := heq w; rw [decide_eq_true hq, Bool.true_and] at this; exact this
      clear heq HED
      subst hq
      generalize decide (a = b) = β at heq2 heqd
      go_upto_region 2 with fail
      refine wp_region_held_drew (S := fun w' => Row w' gp (bs R1) 32 ∧ Row w' gq (bs R2) 32 ∧ Row w' w.heap.size XA 30 ∧ Row w' (w.heap.size + 1) XB 30 ∧ Below w.heap.size w w') (by kernel_rfl) ⟨hP, hQ, h0, h1, hB.drew⟩ fun hS => ?_
      clear hP hQ h0 h1 hB
      refine wpAnyH_take (i := 0) (v := .agg (bs R1)) rfl (by kernel_rfl) (by kernel_rfl) (by kernel_rfl) (fun _ _ _ h => h) (yields_row (by rfl) 32 (.tmp 9) rfl gp rfl 32 (bs R1) (fun w h => h.1) 224 5 Try.underlying32 size32 hR1s) hS ?_
      try simp only [Act.put, List.getElem_toArray, List.getElem_cons_zero, List.getElem_cons_succ, List.setIfInBounds_toArray, List.set_cons_zero, List.set_cons_succ]
      refine wpAnyH_take (i := 1) (v := .agg (bs R2)) rfl (by kernel_rfl) (by kernel_rfl) (by kernel_rfl) (fun _ _ _ h => h) (yields_row (by rfl) 32 (.tmp 10) rfl gq rfl 32 (bs R2) (fun w h => h.2.1) 224 5 Try.underlying32 size32 hR2s) hS ?_
      try simp only [Act.put, List.getElem_toArray, List.getElem_cons_zero, List.getElem_cons_succ, List.setIfInBounds_toArray, List.set_cons_zero, List.set_cons_succ]
      refine wpAnyH_take (i := 2) (v := .bool β) rfl (by kernel_rfl) (by kernel_rfl) (by kernel_rfl) (fun _ _ _ h => h) (yields_eq (by rfl) 32 32 (.tmp 21) (.tmp 22) rfl (bs R1) (bs R2) rfl rfl Try.eqGuardType32 β heq2) hS ?_
      try simp only [Act.put, List.getElem_toArray, List.getElem_cons_zero, List.getElem_cons_succ, List.setIfInBounds_toArray, List.set_cons_zero, List.set_cons_succ]
      refine wpAnyH_take (i := 3) (v := .int .u16 no) rfl (by kernel_rfl) (by kernel_rfl) (by kernel_rfl) (fun _ _ _ h => h) (Or.inl ⟨by rfl, fun w _ => by go_simp⟩) hS ?_
      try simp only [Act.put, List.getElem_toArray, List.getElem_cons_zero, List.getElem_cons_succ, List.setIfInBounds_toArray, List.set_cons_zero, List.set_cons_succ]
      refine wpAnyH_take (i := 4) (v := .int .u16 no) rfl (by kernel_rfl) (by kernel_rfl) (by kernel_rfl) (fun _ _ _ h => h) (Or.inl ⟨by rfl, fun w _ => by go_simp⟩) hS ?_
      try simp only [Act.put, List.getElem_toArray, List.getElem_cons_zero, List.getElem_cons_succ, List.setIfInBounds_toArray, List.set_cons_zero, List.set_cons_succ]
      refine wpAnyH_take (i := 5) (v := .bool true) rfl (by kernel_rfl) (by kernel_rfl) (by kernel_rfl) (fun _ _ _ h => h) (Or.inl ⟨by rfl, fun w _ => by go_simp⟩) hS ?_
      try simp only [Act.put, List.getElem_toArray, List.getElem_cons_zero, List.getElem_cons_succ, List.setIfInBounds_toArray, List.set_cons_zero, List.set_cons_succ]
      refine wpAnyH_take (i := 6) (v := .bool true) rfl (by kernel_rfl) (by kernel_rfl) (by kernel_rfl) (fun _ _ _ h => h) (Or.inl ⟨by rfl, fun w _ => by go_simp⟩) hS ?_
      try simp only [Act.put, List.getElem_toArray, List.getElem_cons_zero, List.getElem_cons_succ, List.setIfInBounds_toArray, List.set_cons_zero, List.set_cons_succ]
      refine wpAnyH_take (i := 7) (v := .agg XA) rfl (by kernel_rfl) (by kernel_rfl) (by kernel_rfl) (fun _ _ _ h => h) (yields_cells (by rfl) 30 (.tmp 6) rfl w.heap.size rfl 30 XA (fun w h => h.2.2.1) 68 Try.underlying30 rfl size30 hsa) hS ?_
      try simp only [Act.put, List.getElem_toArray, List.getElem_cons_zero, List.getElem_cons_succ, List.setIfInBounds_toArray, List.set_cons_zero, List.set_cons_succ]
      refine wpAnyH_take (i := 8) (v := .agg XB) rfl (by kernel_rfl) (by kernel_rfl) (by kernel_rfl) (fun _ _ _ h => h) (yields_cells (by rfl) 30 (.tmp 7) rfl (w.heap.size + 1) rfl 30 XB (fun w h => h.2.2.2.1) 68 Try.underlying30 rfl size30 hsb) hS ?_
      try simp only [Act.put, List.getElem_toArray, List.getElem_cons_zero, List.getElem_cons_succ, List.setIfInBounds_toArray, List.set_cons_zero, List.set_cons_succ]
      refine wpAnyH_take (i := 9) (v := .bool β) rfl (by kernel_rfl) (by kernel_rfl) (by kernel_rfl) (fun _ _ _ h => h) (yields_eq (by rfl) 30 30 (.tmp 28) (.tmp 29) rfl XA XB rfl rfl Try.eqGuardType30 β heqd) hS ?_
      try simp only [Act.put, List.getElem_toArray, List.getElem_cons_zero, List.getElem_cons_succ, List.setIfInBounds_toArray, List.set_cons_zero, List.set_cons_succ]
      refine wpAnyH_take (i := 10) (v := .bool β) rfl (by kernel_rfl) (by kernel_rfl) (by kernel_rfl) (fun _ _ _ h => h) (Or.inl ⟨by rfl, fun w _ => by go_simp⟩) hS ?_
      try simp only [Act.put, List.getElem_toArray, List.getElem_cons_zero, List.getElem_cons_succ, List.setIfInBounds_toArray, List.set_cons_zero, List.set_cons_succ]
      refine wpAnyH_take (i := 11) (v := .bool false) rfl (by kernel_rfl) (by kernel_rfl) (by kernel_rfl) (fun _ _ _ h => h) (Or.inl ⟨by rfl, fun w _ => by cases β <;> go_simp⟩) hS ?_
      try simp only [Act.put, List.getElem_toArray, List.getElem_cons_zero, List.getElem_cons_succ, List.setIfInBounds_toArray, List.set_cons_zero, List.set_cons_succ]
      refine wpAnyH_done (by kernel_rfl) ?_ _
      obtain ⟨p0, -, -, -, pb⟩ := hS
      go_upto_region 5 with (first
        | (refine load_row rfl 32 (.tmp 9) rfl gp rfl 32 (bs R1) p0 224 5 Try.underlying32 size32 hR1s ?_)
        | (go_at_call 9; refine (HGD.out _).mono ?_; clear HGD; rintro e w3 ⟨rfl, h3⟩
           have q3 : Row (w3.alloc (.cells D.zero.arr 30)) w3.heap.size D.zero.arr 30 := Row.new _ _ _)
        | (refine store_cells rfl 30 (.tmp 11) (.tmp 37) rfl w3.heap.size X rfl rfl 30 _ q3 68 size30 rfl hgs hg1 ?_))
      have s0 := p0.below h3 p0.lt
      have hls := s0.lt
      have s1 := (s0.alloc (.cells D.zero.arr 30)).other (g := w3.heap.size) (by omega) X
      have sb0 : Below w.heap.size w w3 := pb.trans (h3.mono pb.size)
      have sb := below_setRow (sb0.alloc sb0.size (.cells D.zero.arr 30)) sb0.size X
      clear p0 pb h3 q3 s0 sb0
      generalize (w3.alloc (.cells D.zero.arr 30)).setRow w3.heap.size X = w4 at s1 sb ⊢
      go_upto_region 6 with (first
        | (refine load_row rfl 32 (.tmp 9) rfl gp rfl 32 (bs R1) s1 224 5 Try.underlying32 size32 hR1s ?_)
        | (go_at_call 19; refine (HGU.out _).mono ?_; clear HGU; rintro e w5 ⟨v5, rfl, o5, h5⟩
           rw [HIU.out] at o5 ⊢
           obtain ⟨oa5, cap5, rfl, -⟩ := o5.open
           simp only [Bool.false_eq_true, if_false]
           have q5 : Row (w5.alloc (.cells #[.int .u64 0, .slice none 0 0] 44)) w5.heap.size #[.int .u64 0, .slice none 0 0] 44 := Row.new _ _ _)
        | (refine store_cells rfl 44 (.tmp 13) (.tmp 43) rfl w5.heap.size _ rfl rfl 44 _ q5 2 size44 rfl rfl (by simp [Value.oneCell']) ?_))
      have tb0 : Below w.heap.size w w5 := sb.trans (h5.mono sb.size)
      have HT := show Hid _ from below_setRow (tb0.alloc tb0.size (.cells #[.int .u64 0, .slice none 0 0] 44)) tb0.size
      clear s1 sb h5 q5 o5
      have he0 := HE0.out
      subst he0
      go_wp2_with (go_at_call 15; refine (HAW.out _).mono ?_; clear HAW; rintro e w7 ⟨rfl, h7⟩)
      have hfin := HT.out #[.int .u64 0, .slice oa5 ([] : List O).length cap5]
      go_ret
      exact ⟨rfl, hfin.trans (h7.mono hfin.size)⟩
    · have HE0 : Hid ((E == 0) = false) := by
        have := HED.out
        rw [decide_eq_false hq] at this
        exact this
      have heq2 : ∀ w, (Op.equalIn 10000 32 (.agg (bs R1)) (.agg (bs R2))).run Try.prog w = .ok false w := by
        intro w; have := heq w; rw [decide_eq_false hq, Bool.false_and] at this; exact this
      have hqb : (no == on) = false := by simp [hq]
      clear heq HED
      go_upto_region 2 with fail
      refine wp_region_held_drew (S := fun w' => Row w' gp (bs R1) 32 ∧ Row w' gq (bs R2) 32 ∧ Row w' w.heap.size XA 30 ∧ Row w' (w.heap.size + 1) XB 30 ∧ Below w.heap.size w w') (by kernel_rfl) ⟨hP, hQ, h0, h1, hB.drew⟩ fun hS => ?_
      clear hP hQ h0 h1 hB
      refine wpAnyH_take (i := 0) (v := .agg (bs R1)) rfl (by kernel_rfl) (by kernel_rfl) (by kernel_rfl) (fun _ _ _ h => h) (yields_row (by rfl) 32 (.tmp 9) rfl gp rfl 32 (bs R1) (fun w h => h.1) 224 5 Try.underlying32 size32 hR1s) hS ?_
      try simp only [Act.put, List.getElem_toArray, List.getElem_cons_zero, List.getElem_cons_succ, List.setIfInBounds_toArray, List.set_cons_zero, List.set_cons_succ]
      refine wpAnyH_take (i := 1) (v := .agg (bs R2)) rfl (by kernel_rfl) (by kernel_rfl) (by kernel_rfl) (fun _ _ _ h => h) (yields_row (by rfl) 32 (.tmp 10) rfl gq rfl 32 (bs R2) (fun w h => h.2.1) 224 5 Try.underlying32 size32 hR2s) hS ?_
      try simp only [Act.put, List.getElem_toArray, List.getElem_cons_zero, List.getElem_cons_succ, List.setIfInBounds_toArray, List.set_cons_zero, List.set_cons_succ]
      refine wpAnyH_take (i := 2) (v := .bool false) rfl (by kernel_rfl) (by kernel_rfl) (by kernel_rfl) (fun _ _ _ h => h) (yields_eq (by rfl) 32 32 (.tmp 21) (.tmp 22) rfl (bs R1) (bs R2) rfl rfl Try.eqGuardType32 false heq2) hS ?_
      try simp only [Act.put, List.getElem_toArray, List.getElem_cons_zero, List.getElem_cons_succ, List.setIfInBounds_toArray, List.set_cons_zero, List.set_cons_succ]
      refine wpAnyH_take (i := 3) (v := .int .u16 no) rfl (by kernel_rfl) (by kernel_rfl) (by kernel_rfl) (fun _ _ _ h => h) (Or.inl ⟨by rfl, fun w _ => by go_simp⟩) hS ?_
      try simp only [Act.put, List.getElem_toArray, List.getElem_cons_zero, List.getElem_cons_succ, List.setIfInBounds_toArray, List.set_cons_zero, List.set_cons_succ]
      refine wpAnyH_take (i := 4) (v := .int .u16 on) rfl (by kernel_rfl) (by kernel_rfl) (by kernel_rfl) (fun _ _ _ h => h) (Or.inl ⟨by rfl, fun w _ => by go_simp⟩) hS ?_
      try simp only [Act.put, List.getElem_toArray, List.getElem_cons_zero, List.getElem_cons_succ, List.setIfInBounds_toArray, List.set_cons_zero, List.set_cons_succ]
      refine wpAnyH_take (i := 5) (v := .bool false) rfl (by kernel_rfl) (by kernel_rfl) (by kernel_rfl) (fun _ _ _ h => h) (Or.inl ⟨by rfl, fun w _ => by go_simp⟩) hS ?_
      try simp only [Act.put, List.getElem_toArray, List.getElem_cons_zero, List.getElem_cons_succ, List.setIfInBounds_toArray, List.set_cons_zero, List.set_cons_succ]
      refine wpAnyH_take (i := 6) (v := .bool false) rfl (by kernel_rfl) (by kernel_rfl) (by kernel_rfl) (fun _ _ _ h => h) (Or.inl ⟨by rfl, fun w _ => by go_simp⟩) hS ?_
      try simp only [Act.put, List.getElem_toArray, List.getElem_cons_zero, List.getElem_cons_succ, List.setIfInBounds_toArray, List.set_cons_zero, List.set_cons_succ]
      refine wpAnyH_take (i := 7) (v := undef) rfl (by kernel_rfl) (by kernel_rfl) (by kernel_rfl) (fun _ _ _ h => h) (Or.inr ⟨by rfl, rfl⟩) hS ?_
      try simp only [Act.put, List.getElem_toArray, List.getElem_cons_zero, List.getElem_cons_succ, List.setIfInBounds_toArray, List.set_cons_zero, List.set_cons_succ]
      refine wpAnyH_take (i := 8) (v := undef) rfl (by kernel_rfl) (by kernel_rfl) (by kernel_rfl) (fun _ _ _ h => h) (Or.inr ⟨by rfl, rfl⟩) hS ?_
      try simp only [Act.put, List.getElem_toArray, List.getElem_cons_zero, List.getElem_cons_succ, List.setIfInBounds_toArray, List.set_cons_zero, List.set_cons_succ]
      refine wpAnyH_take (i := 9) (v := undef) rfl (by kernel_rfl) (by kernel_rfl) (by kernel_rfl) (fun _ _ _ h => h) (Or.inr ⟨by rfl, rfl⟩) hS ?_
      try simp only [Act.put, List.getElem_toArray, List.getElem_cons_zero, List.getElem_cons_succ, List.setIfInBounds_toArray, List.set_cons_zero, List.set_cons_succ]
      refine wpAnyH_take (i := 10) (v := .bool false) rfl (by kernel_rfl) (by kernel_rfl) (by kernel_rfl) (fun _ _ _ h => h) (Or.inl ⟨by rfl, fun w _ => by go_simp⟩) hS ?_
      try simp only [Act.put, List.getElem_toArray, List.getElem_cons_zero, List.getElem_cons_succ, List.setIfInBounds_toArray, List.set_cons_zero, List.set_cons_succ]
      refine wpAnyH_take (i := 11) (v := .bool false) rfl (by kernel_rfl) (by kernel_rfl) (by kernel_rfl) (fun _ _ _ h => h) (Or.inl ⟨by rfl, fun w _ => by go_simp⟩) hS ?_
      try simp only [Act.put, List.getElem_toArray, List.getElem_cons_zero, List.getElem_cons_succ, List.setIfInBounds_toArray, List.set_cons_zero, List.set_cons_succ]
      refine wpAnyH_done (by kernel_rfl) ?_ _
      obtain ⟨p0, -, -, -, pb⟩ := hS
      go_upto_region 5 with (first
        | (refine load_row rfl 32 (.tmp 9) rfl gp rfl 32 (bs R1) p0 224 5 Try.underlying32 size32 hR1s ?_)
        | (go_at_call 9; refine (HGD.out _).mono ?_; clear HGD; rintro e w3 ⟨rfl, h3⟩
           have q3 : Row (w3.alloc (.cells D.zero.arr 30)) w3.heap.size D.zero.arr 30 := Row.new _ _ _)
        | (refine store_cells rfl 30 (.tmp 11) (.tmp 37) rfl w3.heap.size X rfl rfl 30 _ q3 68 size30 rfl hgs hg1 ?_))
      have s0 := p0.below h3 p0.lt
      have hls := s0.lt
      have s1 := (s0.alloc (.cells D.zero.arr 30)).other (g := w3.heap.size) (by omega) X
      have sb0 : Below w.heap.size w w3 := pb.trans (h3.mono pb.size)
      have sb := below_setRow (sb0.alloc sb0.size (.cells D.zero.arr 30)) sb0.size X
      clear p0 pb h3 q3 s0 sb0
      generalize (w3.alloc (.cells D.zero.arr 30)).setRow w3.heap.size X = w4 at s1 sb ⊢
      go_upto_region 6 with (first
        | (refine load_row rfl 32 (.tmp 9) rfl gp rfl 32 (bs R1) s1 224 5 Try.underlying32 size32 hR1s ?_)
        | (go_at_call 19; refine (HGU.out _).mono ?_; clear HGU; rintro e w5 ⟨v5, rfl, o5, h5⟩
           rw [HIU.out] at o5 ⊢
           obtain ⟨oa5, cap5, rfl, -⟩ := o5.open
           simp only [Bool.false_eq_true, if_false]
           have q5 : Row (w5.alloc (.cells #[.int .u64 0, .slice none 0 0] 44)) w5.heap.size #[.int .u64 0, .slice none 0 0] 44 := Row.new _ _ _)
        | (refine store_cells rfl 44 (.tmp 13) (.tmp 43) rfl w5.heap.size _ rfl rfl 44 _ q5 2 size44 rfl rfl (by simp [Value.oneCell']) ?_))
      have tb0 : Below w.heap.size w w5 := sb.trans (h5.mono sb.size)
      have HT := show Hid _ from below_setRow (tb0.alloc tb0.size (.cells #[.int .u64 0, .slice none 0 0] 44)) tb0.size
      clear s1 sb h5 q5 o5
      have he0 := HE0.out
      skip
      go_wp2_with (go_at_call 15; refine (HAW.out _).mono ?_; clear HAW; rintro e w7 ⟨rfl, h7⟩)
      have hfin := HT.out #[.int .u64 0, .slice oa5 ([] : List O).length cap5]
      go_ret
      exact ⟨rfl, hfin.trans (h7.mono hfin.size)⟩

set_option maxRecDepth 100000 in
theorem lifted (os : Os) (started : os.Started) (H : Type) (enc : TypeId × Value → H) :
    ReturnsInHanded {} Try.checked os 8 .any (Rows.pageUnlikeSpec.pre6 enc Try.prog Try.f8 Rows.pageUnlikeRow.domain false) (Rows.pageUnlikeSpec.post enc Try.prog Try.f8 false true false false) := by
  refine returnsInHanded_of_change_sized (C := Try.checked) own started (by kernel_rfl) Try.func8
    (ChangeSpec.witness6 (enc := enc) (C := Try.checked) false ⟨#[], #[.int .u16 0, .int .u16 0, .agg D.zero.arr, .agg D.zero.arr], []⟩ 8 (by kernel_rfl) (by kernel_rfl) (by kernel_rfl) (by kernel_rfl)) ?_
  intro W base args ds gs before hval0 hW hcnd hsz0 _
  have hval : ∀ (j : Nat) t v, Try.f8.params[j]? = some t → args[j]? = some v → Value.okWide Try.prog W .any base t v := hval0
  have hW' := hW
  obtain ⟨p, q, hA0, hV, rfl, hfz, hnd⟩ := hW
  have hA : DataW.TrodAll enc Try.prog W 0 (fun _ => true) true Try.f8.params.toList args.toList ds p := hA0
  have hsz : (DataW.weightsEach Try.prog (Try.f8.params.toList ++ []) (ds ++ gs)).all (· ≤ reachBytes) = true := hsz0
  rw [Try.params8] at hA hval hsz
  obtain ⟨v0, vs0, d0, ds0, p0, q0, hargs, rfl, rfl, h0, r0⟩ := trodAll_cons hA
  obtain ⟨v1, vs1, d1, ds1, p1, q1, rfl, rfl, rfl, h1, r1⟩ := trodAll_cons r0
  obtain ⟨v2, vs2, d2, ds2, p2, q2, rfl, rfl, rfl, h2, r2⟩ := trodAll_cons r1
  obtain ⟨v3, vs3, d3, ds3, p3, q3, rfl, rfl, rfl, h3, r3⟩ := trodAll_cons r2
  obtain ⟨rfl, rfl, rfl⟩ := trodAll_nil r3
  obtain rfl : args = #[v0, v1, v2, v3] := by cases args; simp_all
  obtain ⟨rfl, rfl⟩ := trodVars_none hV
  simp only [List.append_nil] at hsz
  have hlt : ∀ x ∈ (p0 ++ (p1 ++ (p2 ++ (p3 ++ [])))), x.block < W.heap.size := fun x hx => hW'.lt x (by simpa using hx)
  have hw0 : (d0.weights Try.prog 22).all (· ≤ reachBytes) = true := List.all_eq_true.2 fun m hm => List.all_eq_true.1 hsz m (by simp [DataW.weightsEach, hm])
  have hw1 : (d1.weights Try.prog 22).all (· ≤ reachBytes) = true := List.all_eq_true.2 fun m hm => List.all_eq_true.1 hsz m (by simp [DataW.weightsEach, hm])
  have hw2 : (d2.weights Try.prog 30).all (· ≤ reachBytes) = true := List.all_eq_true.2 fun m hm => List.all_eq_true.1 hsz m (by simp [DataW.weightsEach, hm])
  have hw3 : (d3.weights Try.prog 30).all (· ≤ reachBytes) = true := List.all_eq_true.2 fun m hm => List.all_eq_true.1 hsz m (by simp [DataW.weightsEach, hm])
  have k0 := h0
  have k1 := h1
  have k2 := h2
  have k3 := h3
  obtain ⟨a0, rfl, rfl, rfl, w0⟩ := open_int Try.underlying22 (hval 0 22 v0 rfl rfl) h0
  obtain ⟨a1, rfl, rfl, rfl, w1⟩ := open_int Try.underlying22 (hval 1 22 v1 rfl rfl) h1
  obtain ⟨a2, rfl, w2⟩ := open_datav (hval 2 30 v2 rfl rfl) h2
  obtain ⟨a3, rfl, w3⟩ := open_datav (hval 3 30 v3 rfl rfl) h3
  clear hA0 hval0
  simp only [List.append_nil] at hW'
  refine (walk W a0 a1 a2 a3 w0 w1 w2 w3).mono fun e W' ⟨he, hg⟩ => ?_
  subst he
  exact ⟨_, rfl, ⟨_, _, _, [], ([] ++ ([] ++ (p2 ++ (p3 ++ [])))), [], hW', (trodAll_cons_mk (shut_bool Try.underlying4 _) trodAll_mk0), (trodAll_cons_mk (Below.trod laidOut (by kernel_rfl) (of_decide_eq_true (by kernel_rfl)) k0 hg (fun x hx => (nomatch hx))) (trodAll_cons_mk (Below.trod laidOut (by kernel_rfl) (of_decide_eq_true (by kernel_rfl)) k1 hg (fun x hx => (nomatch hx))) (trodAll_cons_mk (Below.trod laidOut (by kernel_rfl) (of_decide_eq_true (by kernel_rfl)) k2 hg (fun x hx => hlt x (by simp [hx]))) (trodAll_cons_mk (Below.trod laidOut (by kernel_rfl) (of_decide_eq_true (by kernel_rfl)) k3 hg (fun x hx => hlt x (by simp [hx]))) trodAll_mk0)))), rfl,
    hg.frame _, fun h => by cases h⟩⟩

theorem over : Rows.pageUnlikeRow.holds Try.pinned (OpenSpec.ofChange Rows.pageUnlikeSpec) :=
  OpenClaim.holds_of_wide 8 Try.f8 rfl rfl rfl rfl rfl rfl rfl ⟨rfl, rfl, rfl, rfl, rfl⟩ rfl rfl rfl rfl rfl (by kernel_rfl) Try.func8 (by kernel_rfl)
    (of_decide_eq_true (by kernel_rfl)) (by unfold Func.isWrapper; first | (rw [if_pos (by decide +kernel)]; kernel_rfl) | (rw [if_neg (by decide +kernel)]; exact ⟨rfl, rfl⟩))
    (fun os started H enc _ => lifted os started H enc)

/-- The statement. -/
theorem proved : Rows.PageUnlikeSaid :=
  over
#print axioms proved
end Go.Proofs.Ytomlbkdagaldoaa.pageUnlike
