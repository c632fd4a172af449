/-
  Proved here: the statements' fixed run: a version comes to a data page.
-/
import Derived.Test.YtihjapfgllokgabRpy
namespace Go.Proofs.Ytihjapfgllokgab
open Go.ChangeShapes Go.WideShapes Go.ChangeAt Go.RowKit
set_option linter.unusedVariables false
set_option linter.unusedSimpArgs false
set_option maxRecDepth 20000

theorem yields_build {P : Program} {ops : Array Oper} {S : World → Prop} {o : Oper} {a : Act} (hw : Region.wanted o (yielded ops a.tmps) = true) (t : TypeId) (parts : Array (Nat × Operand)) (ho : o.op = .build t parts)
    (vs : List (Nat × Value)) (hv : parts.toList.map (fun x => (x.1, a.eval x.2)) = vs) (cs : Array Value) (hb : P.built t vs = some cs) : YieldsIf P ops S o (.agg cs) a := by
  refine Or.inl ⟨hw, fun w hS => ?_⟩
  have e : (parts.map fun (i, x) => (i, a.eval x)).toList = vs := by rw [← hv, Array.toList_map]
  unfold execOp
  simp only [ho, Sem.run_bind, run_build w t _ cs (by rw [e]; exact hb), Result.andThen_ok, Sem.run_pure]
def Ra : R := { R.zero with kind := 2, no := 1, ts := 4 }
def Ea : En := ⟨9, Ra⟩
def Da : D := ⟨9, 4, 0, 0, zs 64⟩
theorem Da_ok : Da.Ok := ⟨by decide, by decide, by decide, by decide, zs_length _, zs_bytes _⟩
theorem Ea_fits : Ea.Fits := ⟨by decide, ⟨by decide, by decide, zs_length _, zs_bytes _, by decide, by decide, by decide, by decide, Nat.zero_le _, ⟨by decide, by decide, by decide, by decide⟩, Nat.zero_le _⟩⟩
theorem built37a : Try.prog.built 37 [(0, .int .u8 2), (1, .agg #[.bool false, .int .u16 1]), (3, .int .u32 4)] = some Ra.arr := by kernel_rfl
theorem built39a : Try.prog.built 39 [(0, .int .u64 9), (1, .agg Ra.arr)] = some Ea.arr := by kernel_rfl
theorem zero24 (w : World) : (zeroValue 24).run Try.prog w = .ok (.agg #[.bool false, .int .u16 0]) w := (zero_of_info (P := Try.prog) (t := 24) (v := .agg #[.bool false, .int .u16 0]) (n := 2) (by kernel_rfl)).1 w
theorem built24a : Try.prog.built 24 [(1, .int .u16 1)] = some #[.bool false, .int .u16 1] := by kernel_rfl
theorem Ra_may : mayR Ra = true := by decide +kernel
theorem awake_redo : redoR false 1 (blankP false 1) Ea = (putD 1 Da, 0) := by
  have h1 : aboutR false 1 Ea.r = true := by decide +kernel
  have h2 : pieces Ea.r.delta = some [] := by decide +kernel
  have h3 : redoDR 1 (putD 1 D.zero) Ea = some (putD 1 Da) := by
    unfold redoDR
    rw [isD_putD 1 D.zero D.zero_ok, if_pos rfl, if_pos (show Ea.r.kind = 2 from rfl), h2, dOf_putD 1 D.zero D.zero_ok]
    rfl
  unfold redoR
  rw [show mayR Ea.r = true from Ra_may, h1]
  show redoD2 1 (putD 1 D.zero) Ea = _
  unfold redoD2; rw [h3]
set_option maxHeartbeats 4000000 in
theorem awake_any (w : World) : Calls Try.prog 7 #[] w fun e w' => e = .returned (.bool true) ∧ Below w.heap.size w w' := by
  have hz := zero26
  have hz5 := zero55
  have HBL : Hid _ := fun w => blank_any false 1 w (by decide)
  have HRE : Hid _ := fun w => redo_any false 1 (blankP false 1) Ea w (by decide) (blankP_length _ _) (blankP_bytes _ _) Ea_fits
  have HGT : Hid _ := fun w => getData_any 1 (putD 1 Da) w (by decide) (putD_length _ _ (zs_length _)) (putD_bytes _ _ (zs_bytes _))
  have h1 := isD_putD 1 Da Da_ok
  have h2 : gotD 1 (putD 1 Da) = Da := by unfold gotD; rw [h1, if_pos rfl, dOf_putD 1 _ Da_ok]
  have h3 : errD 1 (putD 1 Da) = 0 := by unfold errD; rw [h1]; rfl
  rw [h2, h3] at HGT
  rw [awake_redo] at HRE
  have hBl := blankP_length false 1
  have hQl := putD_length 1 Da (zs_length _)
  generalize putD 1 Da = Q at HRE HGT hQl
  generalize blankP false 1 = B at HBL HRE hBl
  have hBb : (bs B).size = 224 := by rw [bs_size, hBl]
  have hQb : (bs Q).size = 224 := by rw [bs_size, hQl]
  have hRa : Ra.arr.size = 238 := R.arr_size _ (zs_length _)
  have hEa : Ea.arr.size = 239 := En.arr_size _ (zs_length _)
  clear h1 h2 h3
  have hz24 := zero24
  have q1 : Row (w.alloc (.cells #[.bool false, .int .u16 0] 24)) w.heap.size #[.bool false, .int .u16 0] 24 := Row.new _ _ _
  go_enter Try.func7, Try.ntmps7
  go_upto_region 2 with (first
    | (refine build_parts rfl 24 #[(1, .const (.int .u16 1))] rfl [(1, .int .u16 1)] rfl _ built24a ?_)
    | (refine store_cells rfl 24 (.tmp 1) (.tmp 6) rfl w.heap.size #[.bool false, .int .u16 1] rfl rfl 24 _ q1 2 size24 rfl rfl (by simp [Value.oneCell']) ?_))
  have a1 := q1.set #[.bool false, .int .u16 1]
  have ab : Below w.heap.size w ((w.alloc (.cells #[.bool false, .int .u16 0] 24)).setRow w.heap.size #[.bool false, .int .u16 1]) := below_setRow ((Below.refl _ _).alloc (Nat.le_refl _) _) (Nat.le_refl _) _
  clear q1
  generalize (w.alloc (.cells #[.bool false, .int .u16 0] 24)).setRow w.heap.size #[.bool false, .int .u16 1] = w1 at a1 ab ⊢
  obtain ⟨g1, Hg1⟩ : ∃ g, Hid (w.heap.size = g) := ⟨_, rfl⟩
  rw [Hg1.out] at a1 ⊢
  refine wp_region_held_drew (S := fun w' => Row w' g1 #[.bool false, .int .u16 1] 24 ∧ Below w.heap.size w w') (by kernel_rfl) ⟨a1, ab.drew⟩ fun hS => ?_
  clear a1 ab
  generalize w1.drew = wd at hS ⊢
  refine wpAnyH_take (i := 0) (v := .agg #[.bool false, .int .u16 1]) rfl (by kernel_rfl) (by kernel_rfl) (by kernel_rfl) (fun _ _ _ h => h) (yields_cells (by rfl) 24 (.tmp 1) rfl g1 rfl 24 #[.bool false, .int .u16 1] (fun w h => h.1) 2 Try.underlying24 rfl size24 rfl) hS ?_
  try simp only [Act.put, List.getElem_toArray, List.getElem_cons_zero, List.getElem_cons_succ, List.setIfInBounds_toArray, List.set_cons_zero, List.set_cons_succ]
  refine wpAnyH_take (i := 1) (v := .agg #[.bool false, .int .u16 1]) rfl (by kernel_rfl) (by kernel_rfl) (by kernel_rfl) (fun _ _ _ h => h) (yields_cells (by rfl) 24 (.tmp 1) rfl g1 rfl 24 #[.bool false, .int .u16 1] (fun w h => h.1) 2 Try.underlying24 rfl size24 rfl) hS ?_
  try simp only [Act.put, List.getElem_toArray, List.getElem_cons_zero, List.getElem_cons_succ, List.setIfInBounds_toArray, List.set_cons_zero, List.set_cons_succ]
  refine wpAnyH_take (i := 3) (v := .agg #[.bool false, .int .u16 1]) rfl (by kernel_rfl) (by kernel_rfl) (by kernel_rfl) (fun _ _ _ h => h) (yields_cells (by rfl) 24 (.tmp 1) rfl g1 rfl 24 #[.bool false, .int .u16 1] (fun w h => h.1) 2 Try.underlying24 rfl size24 rfl) hS ?_
  try simp only [Act.put, List.getElem_toArray, List.getElem_cons_zero, List.getElem_cons_succ, List.setIfInBounds_toArray, List.set_cons_zero, List.set_cons_succ]
  refine wpAnyH_take (i := 4) (v := .agg Ra.arr) rfl (by kernel_rfl) (by kernel_rfl) (by kernel_rfl) (fun _ _ _ h => h) (yields_build (by rfl) 37 #[(0, .const (.int .u8 2)), (1, .tmp 11), (3, .const (.int .u32 4))] rfl [(0, .int .u8 2), (1, .agg #[.bool false, .int .u16 1]), (3, .int .u32 4)] (by rfl) _ (built37a)) hS ?_
  try simp only [Act.put, List.getElem_toArray, List.getElem_cons_zero, List.getElem_cons_succ, List.setIfInBounds_toArray, List.set_cons_zero, List.set_cons_succ]
  refine wpAnyH_take (i := 5) (v := .agg Ea.arr) rfl (by kernel_rfl) (by kernel_rfl) (by kernel_rfl) (fun _ _ _ h => h) (yields_build (by rfl) 39 #[(0, .const (.int .u64 9)), (1, .tmp 12)] rfl [(0, .int .u64 9), (1, .agg Ra.arr)] (by rfl) _ (built39a)) hS ?_
  try simp only [Act.put, List.getElem_toArray, List.getElem_cons_zero, List.getElem_cons_succ, List.setIfInBounds_toArray, List.set_cons_zero, List.set_cons_succ]
  refine wpAnyH_ready (rs := [2, 10]) (by kernel_rfl) (by simp) ?_
  exact (AllReadyH.cons rfl (fun K hK => by
    go_simp
    go_at_call 14
    refine Calls.mono (HBL.out _) ?_
    rintro e w1_2 ⟨rfl, hcb⟩
    refine hK.out _ _ (⟨hS.1.below hcb hS.1.lt, hS.2.trans (hcb.mono hS.2.size)⟩) fun hS => ?_
    try simp only [Act.put, List.getElem_toArray, List.getElem_cons_zero, List.getElem_cons_succ, List.setIfInBounds_toArray, List.set_cons_zero, List.set_cons_succ]
    clear hcb
    refine wpAnyH_ready (rs := [6, 10]) (by kernel_rfl) (by simp) ?_
    exact (AllReadyH.cons rfl (fun K hK => by
      go_simp
      go_at_call 13
      refine Calls.mono (HRE.out _) ?_
      rintro e w2_6 ⟨rfl, hcb⟩
      refine hK.out _ _ (⟨hS.1.below hcb hS.1.lt, hS.2.trans (hcb.mono hS.2.size)⟩) fun hS => ?_
      try simp only [Act.put, List.getElem_toArray, List.getElem_cons_zero, List.getElem_cons_succ, List.setIfInBounds_toArray, List.set_cons_zero, List.set_cons_succ]
      clear hcb
      refine wpAnyH_take (i := 7) (v := .tuple #[.agg (bs Q), .int .i64 0]) rfl (by kernel_rfl) (by kernel_rfl) (by kernel_rfl) (fun _ _ _ h => h) (Or.inl ⟨by rfl, fun w _ => by go_simp⟩) hS ?_
      try simp only [Act.put, List.getElem_toArray, List.getElem_cons_zero, List.getElem_cons_succ, List.setIfInBounds_toArray, List.set_cons_zero, List.set_cons_succ]
      refine wpAnyH_take (i := 8) (v := .agg (bs Q)) rfl (by kernel_rfl) (by kernel_rfl) (by kernel_rfl) (fun _ _ _ h => h) (Or.inl ⟨by rfl, fun w _ => by go_simp⟩) hS ?_
      try simp only [Act.put, List.getElem_toArray, List.getElem_cons_zero, List.getElem_cons_succ, List.setIfInBounds_toArray, List.set_cons_zero, List.set_cons_succ]
      refine wpAnyH_take (i := 9) (v := .int .i64 0) rfl (by kernel_rfl) (by kernel_rfl) (by kernel_rfl) (fun _ _ _ h => h) (Or.inl ⟨by rfl, fun w _ => by go_simp⟩) hS ?_
      try simp only [Act.put, List.getElem_toArray, List.getElem_cons_zero, List.getElem_cons_succ, List.setIfInBounds_toArray, List.set_cons_zero, List.set_cons_succ]
      refine wpAnyH_ready (rs := [10]) (by kernel_rfl) (by simp) ?_
      refine AllReadyH.cons rfl (fun K hK => ?_) AllReadyH.nil
      have ng2 := hS.2.size
      have ng2s0 := hS.1.lt
      have q2 : Row (w2_6.alloc (.cells (bs (zs 224)) 26)) w2_6.heap.size (bs (zs 224)) 26 := Row.new _ _ _
      go_simp
      refine hK.out _ _ (⟨hS.1.alloc _, hS.2.alloc hS.2.size _⟩) fun hS => ?_
      try simp only [Act.put, List.getElem_toArray, List.getElem_cons_zero, List.getElem_cons_succ, List.setIfInBounds_toArray, List.set_cons_zero, List.set_cons_succ]
      generalize w2_6.alloc (.cells (bs (zs 224)) 26) = w3_10 at q2  hS ⊢
      generalize w2_6.heap.size = g2 at q2 ng2 ng2s0 ⊢
      refine wpAnyH_ready (rs := [11]) (by kernel_rfl) (by simp) ?_
      refine AllReadyH.cons rfl (fun K hK => ?_) AllReadyH.nil
      refine step_cells rfl 26 (.tmp 2) (.tmp 15) rfl g2 (bs Q) rfl rfl 26 _ q2 224 size26 (by rw [bs_size, zs_length]) hQb (bs_one _) (hK.out _ _ ⟨hS.1.other (by omega) _, below_setRow hS.2 (by omega) _⟩ fun hS => ?_)
      try simp only [Act.put, List.getElem_toArray, List.getElem_cons_zero, List.getElem_cons_succ, List.setIfInBounds_toArray, List.set_cons_zero, List.set_cons_succ]
      have q2 := q2.set (bs Q)
      generalize w3_10.setRow g2 (bs Q) = w4_11 at q2 hS ⊢
      refine wpAnyH_take (i := 12) (v := .int .i64 0) rfl (by kernel_rfl) (by kernel_rfl) (by kernel_rfl) (fun _ _ _ h => h) (Or.inl ⟨by rfl, fun w _ => by go_simp⟩) hS ?_
      try simp only [Act.put, List.getElem_toArray, List.getElem_cons_zero, List.getElem_cons_succ, List.setIfInBounds_toArray, List.set_cons_zero, List.set_cons_succ]
      refine wpAnyH_done (by kernel_rfl) ?_ _
      go_upto_region 3 with fail
      have ab := hS.2
      clear hS
      go_upto_region 4 with (first
        | (refine load_row rfl 26 (.tmp 2) rfl g2 rfl 26 (bs Q) q2 224 5 Try.underlying26 size26 hQb ?_)
        | (go_at_call 15; refine (HGT.out _).mono ?_; clear HGT; rintro e w3 ⟨rfl, h3⟩
           have q3 : Row (w3.alloc (.cells D.zero.arr 55)) w3.heap.size D.zero.arr 55 := Row.new _ _ _
           have qb := (ab.trans (h3.mono ab.size)))
        | (refine store_cells rfl 55 (.tmp 4) (.tmp 20) rfl w3.heap.size Da.arr rfl rfl 55 _ q3 68 size55 (D.arr_size _ (zs_length _)) (D.arr_size _ (zs_length _)) (D.arr_one _) ?_))
      have z3 := q3.set Da.arr
      have zb := below_setRow (qb.alloc qb.size (.cells D.zero.arr 55)) qb.size Da.arr
      clear q3
      generalize (w3.alloc (.cells D.zero.arr 55)).setRow w3.heap.size Da.arr = w4 at z3 zb ⊢
      have k0 := row_at z3 0 _ Da.at0
      have k1 := row_at z3 1 _ Da.at1
      have e0 : ((Da.lsn : Int) == 9) = true := rfl
      have e1 : ((Da.ts : Int) == 4) = true := rfl
      go_wp2
      go_ret
      exact ⟨rfl, zb⟩

    ) (AllReadyH.cons rfl (fun K hK => by
      have ng2 := hS.2.size
      have ng2s0 := hS.1.lt
      have q2 : Row (w1_2.alloc (.cells (bs (zs 224)) 26)) w1_2.heap.size (bs (zs 224)) 26 := Row.new _ _ _
      go_simp
      refine hK.out _ _ (⟨hS.1.alloc _, hS.2.alloc hS.2.size _⟩) fun hS => ?_
      try simp only [Act.put, List.getElem_toArray, List.getElem_cons_zero, List.getElem_cons_succ, List.setIfInBounds_toArray, List.set_cons_zero, List.set_cons_succ]
      generalize w1_2.alloc (.cells (bs (zs 224)) 26) = w2_10 at q2  hS ⊢
      generalize w1_2.heap.size = g2 at q2 ng2 ng2s0 ⊢
      refine wpAnyH_ready (rs := [6]) (by kernel_rfl) (by simp) ?_
      refine AllReadyH.cons rfl (fun K hK => ?_) AllReadyH.nil
      go_simp
      go_at_call 13
      refine Calls.mono (HRE.out _) ?_
      rintro e w3_6 ⟨rfl, hcb⟩
      have q2 := q2.below hcb q2.lt
      refine hK.out _ _ (⟨hS.1.below hcb hS.1.lt, hS.2.trans (hcb.mono hS.2.size)⟩) fun hS => ?_
      try simp only [Act.put, List.getElem_toArray, List.getElem_cons_zero, List.getElem_cons_succ, List.setIfInBounds_toArray, List.set_cons_zero, List.set_cons_succ]
      clear hcb
      refine wpAnyH_take (i := 7) (v := .tuple #[.agg (bs Q), .int .i64 0]) rfl (by kernel_rfl) (by kernel_rfl) (by kernel_rfl) (fun _ _ _ h => h) (Or.inl ⟨by rfl, fun w _ => by go_simp⟩) hS ?_
      try simp only [Act.put, List.getElem_toArray, List.getElem_cons_zero, List.getElem_cons_succ, List.setIfInBounds_toArray, List.set_cons_zero, List.set_cons_succ]
      refine wpAnyH_take (i := 8) (v := .agg (bs Q)) rfl (by kernel_rfl) (by kernel_rfl) (by kernel_rfl) (fun _ _ _ h => h) (Or.inl ⟨by rfl, fun w _ => by go_simp⟩) hS ?_
      try simp only [Act.put, List.getElem_toArray, List.getElem_cons_zero, List.getElem_cons_succ, List.setIfInBounds_toArray, List.set_cons_zero, List.set_cons_succ]
      refine wpAnyH_take (i := 9) (v := .int .i64 0) rfl (by kernel_rfl) (by kernel_rfl) (by kernel_rfl) (fun _ _ _ h => h) (Or.inl ⟨by rfl, fun w _ => by go_simp⟩) hS ?_
      try simp only [Act.put, List.getElem_toArray, List.getElem_cons_zero, List.getElem_cons_succ, List.setIfInBounds_toArray, List.set_cons_zero, List.set_cons_succ]
      refine wpAnyH_ready (rs := [11]) (by kernel_rfl) (by simp) ?_
      refine AllReadyH.cons rfl (fun K hK => ?_) AllReadyH.nil
      refine step_cells rfl 26 (.tmp 2) (.tmp 15) rfl g2 (bs Q) rfl rfl 26 _ q2 224 size26 (by rw [bs_size, zs_length]) hQb (bs_one _) (hK.out _ _ ⟨hS.1.other (by omega) _, below_setRow hS.2 (by omega) _⟩ fun hS => ?_)
      try simp only [Act.put, List.getElem_toArray, List.getElem_cons_zero, List.getElem_cons_succ, List.setIfInBounds_toArray, List.set_cons_zero, List.set_cons_succ]
      have q2 := q2.set (bs Q)
      generalize w3_6.setRow g2 (bs Q) = w4_11 at q2 hS ⊢
      refine wpAnyH_take (i := 12) (v := .int .i64 0) rfl (by kernel_rfl) (by kernel_rfl) (by kernel_rfl) (fun _ _ _ h => h) (Or.inl ⟨by rfl, fun w _ => by go_simp⟩) hS ?_
      try simp only [Act.put, List.getElem_toArray, List.getElem_cons_zero, List.getElem_cons_succ, List.setIfInBounds_toArray, List.set_cons_zero, List.set_cons_succ]
      refine wpAnyH_done (by kernel_rfl) ?_ _
      go_upto_region 3 with fail
      have ab := hS.2
      clear hS
      go_upto_region 4 with (first
        | (refine load_row rfl 26 (.tmp 2) rfl g2 rfl 26 (bs Q) q2 224 5 Try.underlying26 size26 hQb ?_)
        | (go_at_call 15; refine (HGT.out _).mono ?_; clear HGT; rintro e w3 ⟨rfl, h3⟩
           have q3 : Row (w3.alloc (.cells D.zero.arr 55)) w3.heap.size D.zero.arr 55 := Row.new _ _ _
           have qb := (ab.trans (h3.mono ab.size)))
        | (refine store_cells rfl 55 (.tmp 4) (.tmp 20) rfl w3.heap.size Da.arr rfl rfl 55 _ q3 68 size55 (D.arr_size _ (zs_length _)) (D.arr_size _ (zs_length _)) (D.arr_one _) ?_))
      have z3 := q3.set Da.arr
      have zb := below_setRow (qb.alloc qb.size (.cells D.zero.arr 55)) qb.size Da.arr
      clear q3
      generalize (w3.alloc (.cells D.zero.arr 55)).setRow w3.heap.size Da.arr = w4 at z3 zb ⊢
      have k0 := row_at z3 0 _ Da.at0
      have k1 := row_at z3 1 _ Da.at1
      have e0 : ((Da.lsn : Int) == 9) = true := rfl
      have e1 : ((Da.ts : Int) == 4) = true := rfl
      go_wp2
      go_ret
      exact ⟨rfl, zb⟩

    ) AllReadyH.nil))
  ) (AllReadyH.cons rfl (fun K hK => by
    have ng2 := hS.2.size
    have ng2s0 := hS.1.lt
    have q2 : Row (wd.alloc (.cells (bs (zs 224)) 26)) wd.heap.size (bs (zs 224)) 26 := Row.new _ _ _
    go_simp
    refine hK.out _ _ (⟨hS.1.alloc _, hS.2.alloc hS.2.size _⟩) fun hS => ?_
    try simp only [Act.put, List.getElem_toArray, List.getElem_cons_zero, List.getElem_cons_succ, List.setIfInBounds_toArray, List.set_cons_zero, List.set_cons_succ]
    generalize wd.alloc (.cells (bs (zs 224)) 26) = w1_10 at q2  hS ⊢
    generalize wd.heap.size = g2 at q2 ng2 ng2s0 ⊢
    refine wpAnyH_ready (rs := [2]) (by kernel_rfl) (by simp) ?_
    refine AllReadyH.cons rfl (fun K hK => ?_) AllReadyH.nil
    go_simp
    go_at_call 14
    refine Calls.mono (HBL.out _) ?_
    rintro e w2_2 ⟨rfl, hcb⟩
    have q2 := q2.below hcb q2.lt
    refine hK.out _ _ (⟨hS.1.below hcb hS.1.lt, hS.2.trans (hcb.mono hS.2.size)⟩) fun hS => ?_
    try simp only [Act.put, List.getElem_toArray, List.getElem_cons_zero, List.getElem_cons_succ, List.setIfInBounds_toArray, List.set_cons_zero, List.set_cons_succ]
    clear hcb
    refine wpAnyH_ready (rs := [6]) (by kernel_rfl) (by simp) ?_
    refine AllReadyH.cons rfl (fun K hK => ?_) AllReadyH.nil
    go_simp
    go_at_call 13
    refine Calls.mono (HRE.out _) ?_
    rintro e w3_6 ⟨rfl, hcb⟩
    have q2 := q2.below hcb q2.lt
    refine hK.out _ _ (⟨hS.1.below hcb hS.1.lt, hS.2.trans (hcb.mono hS.2.size)⟩) fun hS => ?_
    try simp only [Act.put, List.getElem_toArray, List.getElem_cons_zero, List.getElem_cons_succ, List.setIfInBounds_toArray, List.set_cons_zero, List.set_cons_succ]
    clear hcb
    refine wpAnyH_take (i := 7) (v := .tuple #[.agg (bs Q), .int .i64 0]) rfl (by kernel_rfl) (by kernel_rfl) (by kernel_rfl) (fun _ _ _ h => h) (Or.inl ⟨by rfl, fun w _ => by go_simp⟩) hS ?_
    try simp only [Act.put, List.getElem_toArray, List.getElem_cons_zero, List.getElem_cons_succ, List.setIfInBounds_toArray, List.set_cons_zero, List.set_cons_succ]
    refine wpAnyH_take (i := 8) (v := .agg (bs Q)) rfl (by kernel_rfl) (by kernel_rfl) (by kernel_rfl) (fun _ _ _ h => h) (Or.inl ⟨by rfl, fun w _ => by go_simp⟩) hS ?_
    try simp only [Act.put, List.getElem_toArray, List.getElem_cons_zero, List.getElem_cons_succ, List.setIfInBounds_toArray, List.set_cons_zero, List.set_cons_succ]
    refine wpAnyH_take (i := 9) (v := .int .i64 0) rfl (by kernel_rfl) (by kernel_rfl) (by kernel_rfl) (fun _ _ _ h => h) (Or.inl ⟨by rfl, fun w _ => by go_simp⟩) hS ?_
    try simp only [Act.put, List.getElem_toArray, List.getElem_cons_zero, List.getElem_cons_succ, List.setIfInBounds_toArray, List.set_cons_zero, List.set_cons_succ]
    refine wpAnyH_ready (rs := [11]) (by kernel_rfl) (by simp) ?_
    refine AllReadyH.cons rfl (fun K hK => ?_) AllReadyH.nil
    refine step_cells rfl 26 (.tmp 2) (.tmp 15) rfl g2 (bs Q) rfl rfl 26 _ q2 224 size26 (by rw [bs_size, zs_length]) hQb (bs_one _) (hK.out _ _ ⟨hS.1.other (by omega) _, below_setRow hS.2 (by omega) _⟩ fun hS => ?_)
    try simp only [Act.put, List.getElem_toArray, List.getElem_cons_zero, List.getElem_cons_succ, List.setIfInBounds_toArray, List.set_cons_zero, List.set_cons_succ]
    have q2 := q2.set (bs Q)
    generalize w3_6.setRow g2 (bs Q) = w4_11 at q2 hS ⊢
    refine wpAnyH_take (i := 12) (v := .int .i64 0) rfl (by kernel_rfl) (by kernel_rfl) (by kernel_rfl) (fun _ _ _ h => h) (Or.inl ⟨by rfl, fun w _ => by go_simp⟩) hS ?_
    try simp only [Act.put, List.getElem_toArray, List.getElem_cons_zero, List.getElem_cons_succ, List.setIfInBounds_toArray, List.set_cons_zero, List.set_cons_succ]
    refine wpAnyH_done (by kernel_rfl) ?_ _
    go_upto_region 3 with fail
    have ab := hS.2
    clear hS
    go_upto_region 4 with (first
      | (refine load_row rfl 26 (.tmp 2) rfl g2 rfl 26 (bs Q) q2 224 5 Try.underlying26 size26 hQb ?_)
      | (go_at_call 15; refine (HGT.out _).mono ?_; clear HGT; rintro e w3 ⟨rfl, h3⟩
         have q3 : Row (w3.alloc (.cells D.zero.arr 55)) w3.heap.size D.zero.arr 55 := Row.new _ _ _
         have qb := (ab.trans (h3.mono ab.size)))
      | (refine store_cells rfl 55 (.tmp 4) (.tmp 20) rfl w3.heap.size Da.arr rfl rfl 55 _ q3 68 size55 (D.arr_size _ (zs_length _)) (D.arr_size _ (zs_length _)) (D.arr_one _) ?_))
    have z3 := q3.set Da.arr
    have zb := below_setRow (qb.alloc qb.size (.cells D.zero.arr 55)) qb.size Da.arr
    clear q3
    generalize (w3.alloc (.cells D.zero.arr 55)).setRow w3.heap.size Da.arr = w4 at z3 zb ⊢
    have k0 := row_at z3 0 _ Da.at0
    have k1 := row_at z3 1 _ Da.at1
    have e0 : ((Da.lsn : Int) == 9) = true := rfl
    have e1 : ((Da.ts : Int) == 4) = true := rfl
    go_wp2
    go_ret
    exact ⟨rfl, zb⟩

  ) AllReadyH.nil))
end Go.Proofs.Ytihjapfgllokgab
