/-
  Proved here: what a page was made of is read of it again, whatever its number: a data page always, an undo page if there may be such a one (PageBack), for all numbers, data pages and undo pages.
-/
import Derived.Test.YtomlbkdagaldoaaBack
import Derived.Test.YtomlbkdagaldoaaSame
namespace Go.Proofs.Ytomlbkdagaldoaa.pageBack
open Go.ChangeShapes Go.WideShapes Go.ChangeAt Go.RowKit
open Go.Deep
set_option linter.unusedVariables false
set_option linter.unusedSimpArgs false

theorem own : ownKnob Try.prog.godebug = none := by kernel_rfl

set_option maxHeartbeats 4000000 in
theorem walk (w : World) (no : Int) (d : D) (lsn : Int) (c : Value) (os : List O) (hno : (Lit.int .u16 no).wf = true) (hd : d.Ok) (hu : Und w lsn c os) :
    Calls Try.prog 6 #[.int .u16 no, .agg d.arr, .agg #[.int .u64 lsn, c]] w fun e w' => e = .returned (.bool true) ∧ Below w.heap.size w w' := by
  have hno := bounds_u16 hno
  have hz1 := zero30
  have hz2 := zero32
  have hz3 := zero44
  have hlen := putD_length no d hd.len
  have hby := putD_bytes no d hd.bytes
  have HP1 : Hid _ := fun w => putData_any no d w hno hd
  have HG1 : Hid _ := fun w => getData_any no (putD no d) w hno hlen hby
  have HL1 : Hid _ := fun w => lsn_any (putD no d) w hlen
  have hisD := isD_putD no d hd
  have e1 : gotD no (putD no d) = d := by unfold gotD; rw [hisD, if_pos rfl, dOf_putD no d hd]
  have e2 : errD no (putD no d) = 0 := by unfold errD; rw [hisD, if_pos rfl]
  have e3 : getN (strOfNums (putD no d)) 7 8 = d.lsn := payT_lsn 1 no d.lsn _ (by rw [dataT_length d hd.len]; omega) (dataT_bytes d hd.bytes) hd.lsn
  rw [e1, e2] at HG1
  rw [e3] at HL1
  clear e1 e2 e3 hisD hby
  have HAW : Hid _ := fun w => awake_any w
  have heq := fun w => equal30 d d hd hd w
  simp only [decide_true] at heq
  have hsA := D.arr_size d hd.len
  have hA1 := D.arr_one d
  have HA0 : Hid _ := d.at0
  generalize putD no d = R at HP1 HG1 HL1 hlen
  generalize d.arr = A at HP1 HG1 heq hsA hA1 HA0 ⊢
  generalize d.lsn = dl at HL1 HA0
  have hRb : (bs R).size = 224 := by rw [bs_size, hlen]
  obtain ⟨ho, hf, hlsn, hn⟩ := hu
  have HKP : Hid _ := fun (w' : World) (hb : Below w.heap.size w w') => kept_big lsn c os w' (ho.keep hb) hn
  have HPU : Hid _ := fun v w (h : Olds w v os) => putUndo_any no lsn v os w h hf hno hlsn
  have HMY : Hid _ := fun v w (h : Olds w v os) => may_any lsn v os w h
  have HSM : Hid _ := fun v w' (h : Olds w' v os) (hb : Below w.heap.size w w') => same_any lsn v c os w' h (ho.keep hb) hn
  have hul := putU_length no lsn os
  have HGU : Hid _ := fun w => getUndo_any no (putU no lsn os) w hno hul (putU_bytes no lsn os)
  have HLU : Hid _ := fun w => lsn_any (putU no lsn os) w hul
  have HUL : Hid (may os = true → getN (strOfNums (putU no lsn os)) 7 8 = lsn ∧ isU no (putU no lsn os) = true ∧ lsnOf (putU no lsn os) = lsn ∧ uOf (putU no lsn os) = os) := fun hm => by
    rw [putU_may _ _ _ hm]
    refine ⟨payT_lsn 2 no lsn _ (undoT_le os hm) (undoT_bytes os) hlsn, ?_, lsnOf_put no lsn os hm hlsn, uOf_put no lsn os hm hf⟩
    rw [isU_put no no lsn os hm hf hlsn hno hno]; simp
  have HER : Hid (errU os = if may os then 0 else 1) := rfl
  generalize putU no lsn os = U at HPU HGU HLU hul HUL
  obtain ⟨oa, cap, rfl, _⟩ := ho.open
  obtain ⟨n, HN⟩ : ∃ n, Hid (os.length = n) := ⟨_, rfl⟩
  rw [HN.out] at HKP HSM ⊢
  have hUb : (bs U).size = 224 := by rw [bs_size, hul]
  clear ho hn hlen hd
  have r0 : Row ((w.alloc (.cells A 30)).alloc (.cells #[.int .u64 lsn, .slice oa n cap] 44)) w.heap.size A 30 := (Row.new _ _ _).alloc _
  have r1 : Row ((w.alloc (.cells A 30)).alloc (.cells #[.int .u64 lsn, .slice oa n cap] 44)) (w.heap.size + 1) #[.int .u64 lsn, .slice oa n cap] 44 := by have := Row.new (w.alloc (.cells A 30)) #[.int .u64 lsn, .slice oa n cap] 44; simpa using this
  have ab : Below w.heap.size w ((w.alloc (.cells A 30)).alloc (.cells #[.int .u64 lsn, .slice oa n cap] 44)) := ((Below.refl _ _).alloc (Nat.le_refl _) _).alloc (by simp) _
  have hDz : D.zero.arr.size = 68 := D.arr_size _ (zs_length _)
  go_enter Try.func6, Try.ntmps6
  go_upto_region 1 with fail
  generalize (w.alloc (.cells A 30)).alloc (.cells #[.int .u64 lsn, .slice oa n cap] 44) = w1 at r0 r1 ab ⊢
  go_upto_region 2 with (first
    | (refine load_cells rfl 30 (.tmp 4) rfl w.heap.size rfl 30 A r0 68 Try.underlying30 rfl size30 hsA ?_)
    | (go_at_call 11; refine (HP1.out _).mono ?_; rintro e w2 ⟨rfl, h2⟩)
    | (go_at_call 9; refine (HG1.out _).mono ?_; clear HG1; rintro e w3 ⟨rfl, h3⟩
       have q2 : Row (w3.alloc (.cells D.zero.arr 30)) w3.heap.size D.zero.arr 30 := Row.new _ _ _)
    | (refine store_cells rfl 30 (.tmp 7) (.tmp 19) rfl w3.heap.size A rfl rfl 30 _ q2 68 size30 hDz hsA hA1 ?_))
  have r0 := (r0.below h2 r0.lt).below h3 (r0.below h2 r0.lt).lt
  have r1 := (r1.below h2 r1.lt).below h3 (r1.below h2 r1.lt).lt
  have l1 := r1.lt
  have ab := ab.trans (h2.mono ab.size)
  have ab := ab.trans (h3.mono ab.size)
  have r0 := (r0.alloc (.cells D.zero.arr 30)).other (g := w3.heap.size) (by omega) A
  have r1 := (r1.alloc (.cells D.zero.arr 30)).other (g := w3.heap.size) (by omega) A
  have q2 := q2.set A
  have ab := below_setRow (ab.alloc ab.size (.cells D.zero.arr 30)) ab.size A
  clear h2 h3
  generalize (w3.alloc (.cells D.zero.arr 30)).setRow w3.heap.size A = w4 at r0 r1 q2 ab ⊢
  generalize w3.heap.size = g1 at q2 l1 ⊢
  refine wp_region_held_drew (S := fun w' => Row w' w.heap.size A 30 ∧ Row w' (w.heap.size + 1) #[.int .u64 lsn, .slice oa n cap] 44 ∧ Row w' g1 A 30 ∧ Below w.heap.size w w') (by kernel_rfl) ⟨r0, r1, q2, ab.drew⟩ fun hS => ?_
  clear r0 r1 q2 ab
  refine wpAnyH_take (i := 0) (v := .int .i64 0) rfl (by kernel_rfl) (by kernel_rfl) (by kernel_rfl) (fun _ _ _ h => h) (Or.inl ⟨by rfl, fun w _ => by go_simp⟩) hS ?_
  try simp only [Act.put, List.getElem_toArray, List.getElem_cons_zero, List.getElem_cons_succ, List.setIfInBounds_toArray, List.set_cons_zero, List.set_cons_succ]
  refine wpAnyH_take (i := 1) (v := .bool false) rfl (by kernel_rfl) (by kernel_rfl) (by kernel_rfl) (fun _ _ _ h => h) (Or.inl ⟨by rfl, fun w _ => by go_simp⟩) hS ?_
  try simp only [Act.put, List.getElem_toArray, List.getElem_cons_zero, List.getElem_cons_succ, List.setIfInBounds_toArray, List.set_cons_zero, List.set_cons_succ]
  refine wpAnyH_take (i := 2) (v := .bool false) rfl (by kernel_rfl) (by kernel_rfl) (by kernel_rfl) (fun _ _ _ h => h) (Or.inl ⟨by rfl, fun w _ => by go_simp⟩) hS ?_
  try simp only [Act.put, List.getElem_toArray, List.getElem_cons_zero, List.getElem_cons_succ, List.setIfInBounds_toArray, List.set_cons_zero, List.set_cons_succ]
  refine wpAnyH_take (i := 3) (v := .agg A) rfl (by kernel_rfl) (by kernel_rfl) (by kernel_rfl) (fun _ _ _ h => h) (yields_cells (by rfl) 30 (.tmp 7) rfl g1 rfl 30 A (fun w h => h.2.2.1) 68 Try.underlying30 rfl size30 hsA) hS ?_
  try simp only [Act.put, List.getElem_toArray, List.getElem_cons_zero, List.getElem_cons_succ, List.setIfInBounds_toArray, List.set_cons_zero, List.set_cons_succ]
  refine wpAnyH_take (i := 4) (v := .agg A) rfl (by kernel_rfl) (by kernel_rfl) (by kernel_rfl) (fun _ _ _ h => h) (yields_cells (by rfl) 30 (.tmp 4) rfl w.heap.size rfl 30 A (fun w h => h.1) 68 Try.underlying30 rfl size30 hsA) hS ?_
  try simp only [Act.put, List.getElem_toArray, List.getElem_cons_zero, List.getElem_cons_succ, List.setIfInBounds_toArray, List.set_cons_zero, List.set_cons_succ]
  refine wpAnyH_take (i := 5) (v := .bool false) rfl (by kernel_rfl) (by kernel_rfl) (by kernel_rfl) (fun _ _ _ h => h) (yields_neq (by rfl) 30 30 (.tmp 24) (.tmp 25) rfl A A rfl rfl Try.eqGuardType30 true heq) hS ?_
  try simp only [Act.put, List.getElem_toArray, List.getElem_cons_zero, List.getElem_cons_succ, List.setIfInBounds_toArray, List.set_cons_zero, List.set_cons_succ]
  refine wpAnyH_take (i := 6) (v := .bool false) rfl (by kernel_rfl) (by kernel_rfl) (by kernel_rfl) (fun _ _ _ h => h) (Or.inl ⟨by rfl, fun w _ => by go_simp⟩) hS ?_
  try simp only [Act.put, List.getElem_toArray, List.getElem_cons_zero, List.getElem_cons_succ, List.setIfInBounds_toArray, List.set_cons_zero, List.set_cons_succ]
  refine wpAnyH_take (i := 7) (v := .bool false) rfl (by kernel_rfl) (by kernel_rfl) (by kernel_rfl) (fun _ _ _ h => h) (Or.inl ⟨by rfl, fun w _ => by go_simp⟩) hS ?_
  try simp only [Act.put, List.getElem_toArray, List.getElem_cons_zero, List.getElem_cons_succ, List.setIfInBounds_toArray, List.set_cons_zero, List.set_cons_succ]
  refine wpAnyH_take (i := 8) (v := .int .u16 no) rfl (by kernel_rfl) (by kernel_rfl) (by kernel_rfl) (fun _ _ _ h => h) (Or.inl ⟨by rfl, fun w _ => by go_simp⟩) hS ?_
  try simp only [Act.put, List.getElem_toArray, List.getElem_cons_zero, List.getElem_cons_succ, List.setIfInBounds_toArray, List.set_cons_zero, List.set_cons_succ]
  refine wpAnyH_take (i := 9) (v := .agg A) rfl (by kernel_rfl) (by kernel_rfl) (by kernel_rfl) (fun _ _ _ h => h) (yields_cells (by rfl) 30 (.tmp 4) rfl w.heap.size rfl 30 A (fun w h => h.1) 68 Try.underlying30 rfl size30 hsA) hS ?_
  try simp only [Act.put, List.getElem_toArray, List.getElem_cons_zero, List.getElem_cons_succ, List.setIfInBounds_toArray, List.set_cons_zero, List.set_cons_succ]
  refine wpAnyH_take (i := 12) (v := .pointer (some ⟨w.heap.size, 0, none⟩)) rfl (by kernel_rfl) (by kernel_rfl) (by kernel_rfl) (fun _ _ _ h => h) (Or.inl ⟨by rfl, fun w _ => by go_simp⟩) hS ?_
  try simp only [Act.put, List.getElem_toArray, List.getElem_cons_zero, List.getElem_cons_succ, List.setIfInBounds_toArray, List.set_cons_zero, List.set_cons_succ]
  refine wpAnyH_take (i := 13) (v := .int .u64 dl) rfl (by kernel_rfl) (by kernel_rfl) (by kernel_rfl) (fun _ _ _ h => h) (Or.inl ⟨by rfl, fun w h => by have c := row_at h.1 0 _ HA0.out; go_simp⟩) hS ?_
  try simp only [Act.put, List.getElem_toArray, List.getElem_cons_zero, List.getElem_cons_succ, List.setIfInBounds_toArray, List.set_cons_zero, List.set_cons_succ]
  refine wpAnyH_ready (rs := [10]) (by kernel_rfl) (by simp) ?_
  refine AllReadyH.cons rfl (fun K hK => ?_) AllReadyH.nil
  go_simp
  go_at_call 11
  refine Calls.mono (HP1.out _) ?_
  rintro e wc ⟨rfl, hcb⟩
  refine hK.out _ _ (⟨hS.1.below hcb hS.1.lt, hS.2.1.below hcb hS.2.1.lt, hS.2.2.1.below hcb hS.2.2.1.lt, hS.2.2.2.trans (hcb.mono hS.2.2.2.size)⟩) fun hS => ?_
  try simp only [Act.put, List.getElem_toArray, List.getElem_cons_zero, List.getElem_cons_succ, List.setIfInBounds_toArray, List.set_cons_zero, List.set_cons_succ]
  clear hcb
  refine wpAnyH_ready (rs := [11]) (by kernel_rfl) (by simp) ?_
  refine AllReadyH.cons rfl (fun K hK => ?_) AllReadyH.nil
  go_simp
  go_at_call 13
  refine Calls.mono (HL1.out _) ?_
  rintro e w2_11 ⟨rfl, hcb⟩
  refine hK.out _ _ (⟨hS.1.below hcb hS.1.lt, hS.2.1.below hcb hS.2.1.lt, hS.2.2.1.below hcb hS.2.2.1.lt, hS.2.2.2.trans (hcb.mono hS.2.2.2.size)⟩) fun hS => ?_
  try simp only [Act.put, List.getElem_toArray, List.getElem_cons_zero, List.getElem_cons_succ, List.setIfInBounds_toArray, List.set_cons_zero, List.set_cons_succ]
  clear hcb
  refine wpAnyH_take (i := 14) (v := .bool false) rfl (by kernel_rfl) (by kernel_rfl) (by kernel_rfl) (fun _ _ _ h => h) (Or.inl ⟨by rfl, fun w _ => by go_simp⟩) hS ?_
  try simp only [Act.put, List.getElem_toArray, List.getElem_cons_zero, List.getElem_cons_succ, List.setIfInBounds_toArray, List.set_cons_zero, List.set_cons_succ]
  refine wpAnyH_take (i := 15) (v := .bool false) rfl (by kernel_rfl) (by kernel_rfl) (by kernel_rfl) (fun _ _ _ h => h) (Or.inl ⟨by rfl, fun w _ => by go_simp⟩) hS ?_
  try simp only [Act.put, List.getElem_toArray, List.getElem_cons_zero, List.getElem_cons_succ, List.setIfInBounds_toArray, List.set_cons_zero, List.set_cons_succ]
  refine wpAnyH_done (by kernel_rfl) ?_ _
  have r1 := hS.2.1
  have ab := hS.2.2.2
  clear hS HP1 HL1 heq
  cases hm : may os
  · have e0 : errU os = 1 := by rw [HER.out, hm]; rfl
    rw [e0] at HPU
    rw [hm] at HMY
    clear HGU HLU HUL HSM HER hm e0
    go_upto_region 5 with (first
      | (refine load_cells rfl 44 (.tmp 5) rfl (w.heap.size + 1) rfl 44 #[.int .u64 lsn, .slice oa n cap] r1 2 Try.underlying44 rfl size44 rfl ?_)
      | (go_at_call 17; refine (HKP.out _ ab).mono ?_; rintro e w5 ⟨v5, rfl, o5, h5⟩
         obtain ⟨oa5, cap5, rfl⟩ := o5.form
         have HPU5 : Hid _ := HPU.out _ _ o5.olds
         clear HPU)
      | (go_at_call 16; refine Calls.mono HPU5.out ?_; clear HPU5; rintro e w6 ⟨rfl, h6⟩
         have q6 : Row (w6.alloc (.cells (bs (zs 224)) 32)) w6.heap.size (bs (zs 224)) 32 := Row.new _ _ _)
      | (refine store_row rfl 32 (.tmp 9) (.tmp 42) rfl w6.heap.size U rfl rfl 32 _ q6 224 size32 (by rw [bs_size, zs_length]) hul ?_))
    have r1 := (r1.below h5 r1.lt).below h6 (r1.below h5 r1.lt).lt
    have l6 := r1.lt
    have r1 := (r1.alloc (.cells (bs (zs 224)) 32)).other (g := w6.heap.size) (by omega) (bs U)
    have ab := ab.trans (h5.mono ab.size)
    have ab := ab.trans (h6.mono ab.size)
    have ab := below_setRow (ab.alloc ab.size (.cells (bs (zs 224)) 32)) ab.size (bs U)
    clear h5 h6 o5 q6
    generalize (w6.alloc (.cells (bs (zs 224)) 32)).setRow w6.heap.size (bs U) = w7 at r1 ab ⊢
    generalize w6.heap.size = g2 at l6 ⊢
    go_wp2_with (first
      | (refine load_cells rfl 44 (.tmp 5) rfl (w.heap.size + 1) rfl 44 #[.int .u64 lsn, .slice oa n cap] r1 2 Try.underlying44 rfl size44 rfl ?_)
      | (go_at_call 17; refine (HKP.out _ ab).mono ?_; clear HKP; rintro e w8 ⟨v8, rfl, o8, h8⟩
         obtain ⟨oa8, cap8, rfl⟩ := o8.form
         have HMY8 : Hid _ := HMY.out _ _ o8.olds
         clear HMY)
      | (go_at_call 21; refine Calls.mono HMY8.out ?_; clear HMY8; rintro e w9 ⟨rfl, h9⟩)
      | (go_at_call 15; refine (HAW.out _).mono ?_; clear HAW; rintro e w10 ⟨rfl, h10⟩))
    have ab := ab.trans (h8.mono ab.size)
    have ab := ab.trans (h9.mono ab.size)
    have ab := ab.trans (h10.mono ab.size)
    go_ret
    exact ⟨rfl, ab⟩
  · have e0 : errU os = 0 := by rw [HER.out, hm]; rfl
    obtain ⟨x1, x2, x3, x4⟩ := HUL.out hm
    rw [e0] at HPU
    rw [x1] at HLU
    have HGU2 : Hid (∀ w, Calls Try.prog 19 #[.int .u16 no, .agg (bs U)] w fun e w' => ∃ v', e = .returned (.tuple #[.agg #[.int .u64 lsn, v'], .int .i64 0]) ∧ Olds w' v' os ∧ Below w.heap.size w w') := fun w => (HGU.out w).mono fun e w' h => by
      obtain ⟨v', h1, h2, h3⟩ := h
      rw [x2, if_pos rfl, if_pos rfl, x3] at h1
      rw [x2, if_pos rfl, x4] at h2
      exact ⟨v', h1, h2, h3⟩
    clear HGU HUL HER hm e0 x1 x2 x3 x4 HMY
    go_upto_region 5 with (first
      | (refine load_cells rfl 44 (.tmp 5) rfl (w.heap.size + 1) rfl 44 #[.int .u64 lsn, .slice oa n cap] r1 2 Try.underlying44 rfl size44 rfl ?_)
      | (go_at_call 17; refine (HKP.out _ ab).mono ?_; clear HKP; rintro e w5 ⟨v5, rfl, o5, h5⟩
         obtain ⟨oa5, cap5, rfl⟩ := o5.form
         have HPU5 : Hid _ := HPU.out _ _ o5.olds
         clear HPU)
      | (go_at_call 16; refine Calls.mono HPU5.out ?_; clear HPU5; rintro e w6 ⟨rfl, h6⟩
         have q6 : Row (w6.alloc (.cells (bs (zs 224)) 32)) w6.heap.size (bs (zs 224)) 32 := Row.new _ _ _)
      | (refine store_row rfl 32 (.tmp 9) (.tmp 42) rfl w6.heap.size U rfl rfl 32 _ q6 224 size32 (by rw [bs_size, zs_length]) hul ?_))
    have r1 := (r1.below h5 r1.lt).below h6 (r1.below h5 r1.lt).lt
    have l6 := r1.lt
    have r1 := (r1.alloc (.cells (bs (zs 224)) 32)).other (g := w6.heap.size) (by omega) (bs U)
    have ab := ab.trans (h5.mono ab.size)
    have ab := ab.trans (h6.mono ab.size)
    have ab := below_setRow (ab.alloc ab.size (.cells (bs (zs 224)) 32)) ab.size (bs U)
    have q6 := q6.set (bs U)
    clear h5 h6 o5
    generalize (w6.alloc (.cells (bs (zs 224)) 32)).setRow w6.heap.size (bs U) = w7 at r1 ab q6 ⊢
    generalize w6.heap.size = g2 at l6 q6 ⊢
    go_upto_region 8 with (first
      | (refine load_row rfl 32 (.tmp 9) rfl g2 rfl 32 (bs U) q6 224 5 Try.underlying32 size32 hUb ?_)
      | (go_at_call 19; refine (HGU2.out _).mono ?_; clear HGU2; rintro e w8 ⟨v8, rfl, o8, h8⟩
         obtain ⟨oa8, cap8, rfl, _⟩ := o8.open
         have q8 : Row (w8.alloc (.cells #[.int .u64 0, .slice none 0 0] 44)) w8.heap.size #[.int .u64 0, .slice none 0 0] 44 := Row.new _ _ _)
      | (refine store_cells rfl 44 (.tmp 11) (.tmp 57) rfl w8.heap.size #[.int .u64 lsn, .slice oa8 os.length cap8] rfl rfl 44 _ q8 2 size44 rfl rfl (by simp [Value.oneCell']) ?_))
    have r1 := r1.below h8 r1.lt
    have q6 := q6.below h8 q6.lt
    have l8 := q6.lt
    have r1 := (r1.alloc (.cells #[.int .u64 0, .slice none 0 0] 44)).other (g := w8.heap.size) (by omega) #[.int .u64 lsn, .slice oa8 os.length cap8]
    have q6 := (q6.alloc (.cells #[.int .u64 0, .slice none 0 0] 44)).other (g := w8.heap.size) (by omega) #[.int .u64 lsn, .slice oa8 os.length cap8]
    have q8 := q8.set #[.int .u64 lsn, .slice oa8 os.length cap8]
    have ab := ab.trans (h8.mono ab.size)
    have ob : Below w8.heap.size w8 ((w8.alloc (.cells #[.int .u64 0, .slice none 0 0] 44)).setRow w8.heap.size #[.int .u64 lsn, .slice oa8 os.length cap8]) := below_setRow ((Below.refl _ _).alloc (Nat.le_refl _) _) (Nat.le_refl _) _
    have o9 := o8.keep ob
    have ab := below_setRow (ab.alloc ab.size (.cells #[.int .u64 0, .slice none 0 0] 44)) ab.size #[.int .u64 lsn, .slice oa8 os.length cap8]
    clear h8 ob o8
    generalize (w8.alloc (.cells #[.int .u64 0, .slice none 0 0] 44)).setRow w8.heap.size #[.int .u64 lsn, .slice oa8 os.length cap8] = w9 at r1 ab q6 q8 o9 ⊢
    generalize w8.heap.size = g3 at l8 q8 ⊢
    have HSM9 : Hid _ := HSM.out _ w9.drew o9 ab.drew
    rw [HN.out] at HSM9 q8 ⊢
    clear HSM o9
    refine wp_region_held_drew (S := fun w' => Row w' (w.heap.size + 1) #[.int .u64 lsn, .slice oa n cap] 44 ∧ Row w' g2 (bs U) 32 ∧ Row w' g3 #[.int .u64 lsn, .slice oa8 n cap8] 44 ∧ Below w.heap.size w w') (by kernel_rfl) ⟨r1, q6, q8, ab.drew⟩ fun hS => ?_
    clear r1 q6 q8 ab
    refine wpAnyH_take (i := 0) (v := .int .i64 0) rfl (by kernel_rfl) (by kernel_rfl) (by kernel_rfl) (fun _ _ _ h => h) (Or.inl ⟨by rfl, fun w _ => by go_simp⟩) hS ?_
    try simp only [Act.put, List.getElem_toArray, List.getElem_cons_zero, List.getElem_cons_succ, List.setIfInBounds_toArray, List.set_cons_zero, List.set_cons_succ]
    refine wpAnyH_take (i := 1) (v := .bool true) rfl (by kernel_rfl) (by kernel_rfl) (by kernel_rfl) (fun _ _ _ h => h) (Or.inl ⟨by rfl, fun w _ => by go_simp⟩) hS ?_
    try simp only [Act.put, List.getElem_toArray, List.getElem_cons_zero, List.getElem_cons_succ, List.setIfInBounds_toArray, List.set_cons_zero, List.set_cons_succ]
    refine wpAnyH_take (i := 2) (v := .bool true) rfl (by kernel_rfl) (by kernel_rfl) (by kernel_rfl) (fun _ _ _ h => h) (Or.inl ⟨by rfl, fun w _ => by go_simp⟩) hS ?_
    try simp only [Act.put, List.getElem_toArray, List.getElem_cons_zero, List.getElem_cons_succ, List.setIfInBounds_toArray, List.set_cons_zero, List.set_cons_succ]
    refine wpAnyH_take (i := 3) (v := .agg #[.int .u64 lsn, .slice oa8 n cap8]) rfl (by kernel_rfl) (by kernel_rfl) (by kernel_rfl) (fun _ _ _ h => h) (yields_cells (by rfl) 44 (.tmp 11) rfl g3 rfl 44 #[.int .u64 lsn, .slice oa8 n cap8] (fun w h => h.2.2.1) 2 Try.underlying44 rfl size44 rfl) hS ?_
    try simp only [Act.put, List.getElem_toArray, List.getElem_cons_zero, List.getElem_cons_succ, List.setIfInBounds_toArray, List.set_cons_zero, List.set_cons_succ]
    refine wpAnyH_take (i := 4) (v := .agg #[.int .u64 lsn, .slice oa n cap]) rfl (by kernel_rfl) (by kernel_rfl) (by kernel_rfl) (fun _ _ _ h => h) (yields_cells (by rfl) 44 (.tmp 5) rfl (w.heap.size + 1) rfl 44 #[.int .u64 lsn, .slice oa n cap] (fun w h => h.1) 2 Try.underlying44 rfl size44 rfl) hS ?_
    try simp only [Act.put, List.getElem_toArray, List.getElem_cons_zero, List.getElem_cons_succ, List.setIfInBounds_toArray, List.set_cons_zero, List.set_cons_succ]
    refine wpAnyH_ready (rs := [5]) (by kernel_rfl) (by simp) ?_
    refine AllReadyH.cons rfl (fun K hK => ?_) AllReadyH.nil
    go_simp
    go_at_call 24
    refine Calls.mono (HSM9.out) ?_
    rintro e wc ⟨rfl, hcb⟩
    refine hK.out _ _ (⟨hS.1.below hcb hS.1.lt, hS.2.1.below hcb hS.2.1.lt, hS.2.2.1.below hcb hS.2.2.1.lt, hS.2.2.2.trans (hcb.mono hS.2.2.2.size)⟩) fun hS => ?_
    try simp only [Act.put, List.getElem_toArray, List.getElem_cons_zero, List.getElem_cons_succ, List.setIfInBounds_toArray, List.set_cons_zero, List.set_cons_succ]
    clear hcb
    refine wpAnyH_take (i := 6) (v := .bool true) rfl (by kernel_rfl) (by kernel_rfl) (by kernel_rfl) (fun _ _ _ h => h) (Or.inl ⟨by rfl, fun w _ => by go_simp⟩) hS ?_
    try simp only [Act.put, List.getElem_toArray, List.getElem_cons_zero, List.getElem_cons_succ, List.setIfInBounds_toArray, List.set_cons_zero, List.set_cons_succ]
    refine wpAnyH_take (i := 7) (v := .bool true) rfl (by kernel_rfl) (by kernel_rfl) (by kernel_rfl) (fun _ _ _ h => h) (Or.inl ⟨by rfl, fun w _ => by go_simp⟩) hS ?_
    try simp only [Act.put, List.getElem_toArray, List.getElem_cons_zero, List.getElem_cons_succ, List.setIfInBounds_toArray, List.set_cons_zero, List.set_cons_succ]
    refine wpAnyH_take (i := 8) (v := .agg (bs U)) rfl (by kernel_rfl) (by kernel_rfl) (by kernel_rfl) (fun _ _ _ h => h) (yields_row (by rfl) 32 (.tmp 9) rfl g2 rfl 32 (bs U) (fun w h => h.2.1) 224 5 Try.underlying32 size32 hUb) hS ?_
    try simp only [Act.put, List.getElem_toArray, List.getElem_cons_zero, List.getElem_cons_succ, List.setIfInBounds_toArray, List.set_cons_zero, List.set_cons_succ]
    refine wpAnyH_take (i := 10) (v := .pointer (some ⟨(w.heap.size + 1), 0, none⟩)) rfl (by kernel_rfl) (by kernel_rfl) (by kernel_rfl) (fun _ _ _ h => h) (Or.inl ⟨by rfl, fun w _ => by go_simp⟩) hS ?_
    try simp only [Act.put, List.getElem_toArray, List.getElem_cons_zero, List.getElem_cons_succ, List.setIfInBounds_toArray, List.set_cons_zero, List.set_cons_succ]
    refine wpAnyH_take (i := 11) (v := .int .u64 lsn) rfl (by kernel_rfl) (by kernel_rfl) (by kernel_rfl) (fun _ _ _ h => h) (Or.inl ⟨by rfl, fun w h => by have c := row_at h.1 0 _ rfl; go_simp⟩) hS ?_
    try simp only [Act.put, List.getElem_toArray, List.getElem_cons_zero, List.getElem_cons_succ, List.setIfInBounds_toArray, List.set_cons_zero, List.set_cons_succ]
    refine wpAnyH_ready (rs := [9]) (by kernel_rfl) (by simp) ?_
    refine AllReadyH.cons rfl (fun K hK => ?_) AllReadyH.nil
    go_simp
    go_at_call 13
    refine Calls.mono (HLU.out _) ?_
    rintro e w2_9 ⟨rfl, hcb⟩
    refine hK.out _ _ (⟨hS.1.below hcb hS.1.lt, hS.2.1.below hcb hS.2.1.lt, hS.2.2.1.below hcb hS.2.2.1.lt, hS.2.2.2.trans (hcb.mono hS.2.2.2.size)⟩) fun hS => ?_
    try simp only [Act.put, List.getElem_toArray, List.getElem_cons_zero, List.getElem_cons_succ, List.setIfInBounds_toArray, List.set_cons_zero, List.set_cons_succ]
    clear hcb
    refine wpAnyH_take (i := 12) (v := .bool true) rfl (by kernel_rfl) (by kernel_rfl) (by kernel_rfl) (fun _ _ _ h => h) (Or.inl ⟨by rfl, fun w _ => by go_simp⟩) hS ?_
    try simp only [Act.put, List.getElem_toArray, List.getElem_cons_zero, List.getElem_cons_succ, List.setIfInBounds_toArray, List.set_cons_zero, List.set_cons_succ]
    refine wpAnyH_take (i := 13) (v := .bool true) rfl (by kernel_rfl) (by kernel_rfl) (by kernel_rfl) (fun _ _ _ h => h) (Or.inl ⟨by rfl, fun w _ => by go_simp⟩) hS ?_
    try simp only [Act.put, List.getElem_toArray, List.getElem_cons_zero, List.getElem_cons_succ, List.setIfInBounds_toArray, List.set_cons_zero, List.set_cons_succ]
    refine wpAnyH_take (i := 14) (v := .bool true) rfl (by kernel_rfl) (by kernel_rfl) (by kernel_rfl) (fun _ _ _ h => h) (Or.inl ⟨by rfl, fun w _ => by go_simp⟩) hS ?_
    try simp only [Act.put, List.getElem_toArray, List.getElem_cons_zero, List.getElem_cons_succ, List.setIfInBounds_toArray, List.set_cons_zero, List.set_cons_succ]
    refine wpAnyH_ready (rs := [15]) (by kernel_rfl) (by simp) ?_
    refine AllReadyH.cons rfl (fun K hK => ?_) AllReadyH.nil
    go_simp
    go_at_call 15
    refine Calls.mono (HAW.out _) ?_
    rintro e w3_15 ⟨rfl, hcb⟩
    refine hK.out _ _ (⟨hS.1.below hcb hS.1.lt, hS.2.1.below hcb hS.2.1.lt, hS.2.2.1.below hcb hS.2.2.1.lt, hS.2.2.2.trans (hcb.mono hS.2.2.2.size)⟩) fun hS => ?_
    try simp only [Act.put, List.getElem_toArray, List.getElem_cons_zero, List.getElem_cons_succ, List.setIfInBounds_toArray, List.set_cons_zero, List.set_cons_succ]
    clear hcb
    refine wpAnyH_take (i := 16) (v := .bool true) rfl (by kernel_rfl) (by kernel_rfl) (by kernel_rfl) (fun _ _ _ h => h) (Or.inl ⟨by rfl, fun w _ => by go_simp⟩) hS ?_
    try simp only [Act.put, List.getElem_toArray, List.getElem_cons_zero, List.getElem_cons_succ, List.setIfInBounds_toArray, List.set_cons_zero, List.set_cons_succ]
    refine wpAnyH_take (i := 17) (v := .bool true) rfl (by kernel_rfl) (by kernel_rfl) (by kernel_rfl) (fun _ _ _ h => h) (Or.inl ⟨by rfl, fun w _ => by go_simp⟩) hS ?_
    try simp only [Act.put, List.getElem_toArray, List.getElem_cons_zero, List.getElem_cons_succ, List.setIfInBounds_toArray, List.set_cons_zero, List.set_cons_succ]
    refine wpAnyH_done (by kernel_rfl) ?_ _
    go_wp2
    go_ret
    exact ⟨rfl, hS.2.2.2⟩

set_option maxRecDepth 100000 in
theorem lifted (os : Os) (started : os.Started) (H : Type) (enc : TypeId × Value → H) :
    ReturnsInHanded {} Try.checked os 6 .any (Rows.pageBackSpec.pre6 enc Try.prog Try.f6 Rows.pageBackRow.domain false) (Rows.pageBackSpec.post enc Try.prog Try.f6 false true false false) := by
  refine returnsInHanded_of_change_sized (C := Try.checked) own started (by kernel_rfl) Try.func6
    (ChangeSpec.witness6 (enc := enc) (C := Try.checked) false ⟨#[], #[.int .u16 0, .agg D.zero.arr, .agg #[.int .u64 0, .slice none 0 0]], []⟩ 8 (by kernel_rfl) (by kernel_rfl) (by kernel_rfl) (by kernel_rfl)) ?_
  intro W base args ds gs before hval0 hW hcnd hsz0 _
  have hval : ∀ (j : Nat) t v, Try.f6.params[j]? = some t → args[j]? = some v → Value.okWide Try.prog W .any base t v := hval0
  have hW' := hW
  obtain ⟨p, q, hA0, hV, rfl, hfz, hnd⟩ := hW
  have hA : DataW.TrodAll enc Try.prog W 0 (fun _ => true) true Try.f6.params.toList args.toList ds p := hA0
  have hsz : (DataW.weightsEach Try.prog (Try.f6.params.toList ++ []) (ds ++ gs)).all (· ≤ reachBytes) = true := hsz0
  rw [Try.params6] at hA hval hsz
  obtain ⟨v0, vs0, d0, ds0, p0, q0, hargs, rfl, rfl, h0, r0⟩ := trodAll_cons hA
  obtain ⟨v1, vs1, d1, ds1, p1, q1, rfl, rfl, rfl, h1, r1⟩ := trodAll_cons r0
  obtain ⟨v2, vs2, d2, ds2, p2, q2, rfl, rfl, rfl, h2, r2⟩ := trodAll_cons r1
  obtain ⟨rfl, rfl, rfl⟩ := trodAll_nil r2
  obtain rfl : args = #[v0, v1, v2] := by cases args; simp_all
  obtain ⟨rfl, rfl⟩ := trodVars_none hV
  simp only [List.append_nil] at hsz
  have hlt : ∀ x ∈ (p0 ++ (p1 ++ (p2 ++ []))), x.block < W.heap.size := fun x hx => hW'.lt x (by simpa using hx)
  have hw0 : (d0.weights Try.prog 22).all (· ≤ reachBytes) = true := List.all_eq_true.2 fun m hm => List.all_eq_true.1 hsz m (by simp [DataW.weightsEach, hm])
  have hw1 : (d1.weights Try.prog 30).all (· ≤ reachBytes) = true := List.all_eq_true.2 fun m hm => List.all_eq_true.1 hsz m (by simp [DataW.weightsEach, hm])
  have hw2 : (d2.weights Try.prog 44).all (· ≤ reachBytes) = true := List.all_eq_true.2 fun m hm => List.all_eq_true.1 hsz m (by simp [DataW.weightsEach, hm])
  have k0 := h0
  have k1 := h1
  have k2 := h2
  obtain ⟨a0, rfl, rfl, rfl, w0⟩ := open_int Try.underlying22 (hval 0 22 v0 rfl rfl) h0
  obtain ⟨a1, rfl, w1⟩ := open_datav (hval 1 30 v1 rfl rfl) h1
  obtain ⟨a2, c2, l2, rfl, w2⟩ := open_undov (hval 2 44 v2 rfl rfl) h2 hw2
  clear hA0 hval0
  simp only [List.append_nil] at hW'
  refine (walk W a0 a1 a2 c2 l2 w0 w1 w2).mono fun e W' ⟨he, hg⟩ => ?_
  subst he
  exact ⟨_, rfl, ⟨_, _, _, [], ([] ++ (p1 ++ (p2 ++ []))), [], hW', (trodAll_cons_mk (shut_bool Try.underlying4 _) trodAll_mk0), (trodAll_cons_mk (Below.trod laidOut (by kernel_rfl) (of_decide_eq_true (by kernel_rfl)) k0 hg (fun x hx => (nomatch hx))) (trodAll_cons_mk (Below.trod laidOut (by kernel_rfl) (of_decide_eq_true (by kernel_rfl)) k1 hg (fun x hx => hlt x (by simp [hx]))) (trodAll_cons_mk (Below.trod laidOut (by kernel_rfl) (of_decide_eq_true (by kernel_rfl)) k2 hg (fun x hx => hlt x (by simp [hx]))) trodAll_mk0))), rfl,
    hg.frame _, fun h => by cases h⟩⟩

theorem over : Rows.pageBackRow.holds Try.pinned (OpenSpec.ofChange Rows.pageBackSpec) :=
  OpenClaim.holds_of_wide 6 Try.f6 rfl rfl rfl rfl rfl rfl rfl ⟨rfl, rfl, rfl, rfl, rfl⟩ rfl rfl rfl rfl rfl (by kernel_rfl) Try.func6 (by kernel_rfl)
    (of_decide_eq_true (by kernel_rfl)) (by unfold Func.isWrapper; first | (rw [if_pos (by decide +kernel)]; kernel_rfl) | (rw [if_neg (by decide +kernel)]; exact ⟨rfl, rfl⟩))
    (fun os started H enc _ => lifted os started H enc)

/-- The statement. -/
theorem proved : Rows.PageBackSaid :=
  over
#print axioms proved
end Go.Proofs.Ytomlbkdagaldoaa.pageBack
