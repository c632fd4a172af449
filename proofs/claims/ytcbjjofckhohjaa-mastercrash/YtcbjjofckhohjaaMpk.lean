/-
  Proved here: master.Pack: a master's block, or that it may not be.
-/
import Derived.Test.YtcbjjofckhohjaaMtd
namespace Go.Proofs.Ytcbjjofckhohjaa
open Go.ChangeShapes Go.WideShapes Go.ChangeAt Go.RowKit
set_option linter.unusedVariables false
set_option linter.unusedSimpArgs false
set_option maxRecDepth 20000

/-- A text as a payload: noughts behind. -/
def padT (l : List Int) : List Int := splice (zs 224) 0 l
theorem padT_length (l : List Int) (h : l.length ≤ 224) : (padT l).length = 224 := by unfold padT; rw [length_splice _ _ _ (by rw [zs_length]; omega), zs_length]
theorem padT_bytes (l : List Int) (h : Bytes l) : Bytes (padT l) := (zs_bytes _).splicing _ h
theorem padT_at (l : List Int) (h : l.length ≤ 224) (j : Nat) : (padT l).getD j 0 = l.getD j 0 := by
  unfold padT
  rw [splice_getD _ _ _ _ (by rw [zs_length]; omega), if_neg (by omega)]
  by_cases hj : j < l.length
  · rw [if_pos (by omega), Nat.sub_zero]
  · rw [if_neg (by omega), zs_getD, getD_none (by omega)]
/-- A master's payload and its block. -/
def payM (m : M) : List Int := padT (textT m)
def packB (m : M) : List Int := Sl.sealN m.seq (padT (textT m)) 4
theorem payM_length (m : M) : (payM m).length = 224 := padT_length _ (by rw [textT_length]; omega)
theorem payM_bytes (m : M) : Bytes (payM m) := padT_bytes _ (textT_bytes m)
theorem packB_length (m : M) : (packB m).length = 256 := Sl.sealN_length _ _ 4 (by omega)
theorem packB_bytes (m : M) : Bytes (packB m) := Sl.sealN_bytes _ _ (payM_bytes m)
def packV (m : M) : List Int := if mayM m then packB m else zs 256
def packE (m : M) : Int := if mayM m then 0 else 1
theorem packV_length (m : M) : (packV m).length = 256 := by
  unfold packV; split
  · exact packB_length _
  · exact zs_length _
theorem packV_bytes (m : M) : Bytes (packV m) := by
  unfold packV; split
  · exact packB_bytes _
  · exact zs_bytes _

set_option maxHeartbeats 4000000 in
theorem mpack_any (m : M) (hf : m.Fit) (w : World) : Calls Try.prog 8 #[.agg (mcells m)] w fun ex w' => ex = .returned (.tuple #[.agg (bs (packV m)), .int .i64 (packE m)]) ∧ Below w.heap.size w w' := by
  have hz1 := zero29
  have hz2 := zero57
  have f1 := hf.seq
  have PM : Hid _ := fun w => mmay_any m w
  have r0 : Row ((w.alloc (.cells #[.int .u64 m.seq, .int .u32 m.ep, .int .u32 m.tail, .int .u64 m.lsn, .int .u32 m.last, .int .i64 m.pg, .int .i64 m.un, .int .i64 m.lg, .int .u32 m.mx] 27)).alloc (.cells (bs (zs 256)) 29)) w.heap.size #[.int .u64 m.seq, .int .u32 m.ep, .int .u32 m.tail, .int .u64 m.lsn, .int .u32 m.last, .int .i64 m.pg, .int .i64 m.un, .int .i64 m.lg, .int .u32 m.mx] 27 := (Row.new _ _ _).alloc _
  have r1 : Row ((w.alloc (.cells #[.int .u64 m.seq, .int .u32 m.ep, .int .u32 m.tail, .int .u64 m.lsn, .int .u32 m.last, .int .i64 m.pg, .int .i64 m.un, .int .i64 m.lg, .int .u32 m.mx] 27)).alloc (.cells (bs (zs 256)) 29)) (w.heap.size + 1) (bs (zs 256)) 29 := by have := Row.new (w.alloc (.cells #[.int .u64 m.seq, .int .u32 m.ep, .int .u32 m.tail, .int .u64 m.lsn, .int .u32 m.last, .int .i64 m.pg, .int .i64 m.un, .int .i64 m.lg, .int .u32 m.mx] 27)) (bs (zs 256)) 29; simpa using this
  have ab : Below w.heap.size w ((w.alloc (.cells #[.int .u64 m.seq, .int .u32 m.ep, .int .u32 m.tail, .int .u64 m.lsn, .int .u32 m.last, .int .i64 m.pg, .int .i64 m.un, .int .i64 m.lg, .int .u32 m.mx] 27)).alloc (.cells (bs (zs 256)) 29)) := ((Below.refl _ _).alloc (Nat.le_refl _) _).alloc (by simp) _
  go_enter Try.func8, Try.ntmps8
  go_upto_region 1 with fail
  generalize (w.alloc (.cells #[.int .u64 m.seq, .int .u32 m.ep, .int .u32 m.tail, .int .u64 m.lsn, .int .u32 m.last, .int .i64 m.pg, .int .i64 m.un, .int .i64 m.lg, .int .u32 m.mx] 27)).alloc (.cells (bs (zs 256)) 29) = w1 at r0 r1 ab ⊢
  obtain ⟨b, hb⟩ : ∃ b, mayM m = b := ⟨_, rfl⟩
  rw [hb] at PM
  cases b
  · have HV : Hid (packV m = zs 256) := by show _ = _; unfold packV; rw [hb]; rfl
    have HE : Hid (packE m = 1) := by show _ = _; unfold packE; rw [hb]; rfl
    go_wp2_with (first
      | (refine load_cells rfl 27 (.tmp 1) rfl w.heap.size rfl 27 #[.int .u64 m.seq, .int .u32 m.ep, .int .u32 m.tail, .int .u64 m.lsn, .int .u32 m.last, .int .i64 m.pg, .int .i64 m.un, .int .i64 m.lg, .int .u32 m.mx] r0 9 Try.underlying27 rfl size27 rfl ?_)
      | (go_at_call 13; refine (PM.out _).mono ?_; clear PM; rintro ex w2 ⟨rfl, h2⟩)
      | (refine build_none rfl 29 rfl _ built29 ?_)
      | (refine store_row rfl 29 (.tmp 2) (.tmp 8) rfl (w.heap.size + 1) (zs 256) rfl rfl 29 _ (r1.below h2 r1.lt) 256 size29 (by rw [bs_size, zs_length]) (zs_length _) ?_))
    refine bodyPost_ret (v := .tuple #[.agg (bs (zs 256)), .int .i64 1]) ?_ rfl ⟨by rw [HV.out, HE.out], below_setRow (ab.trans (h2.mono ab.size)) (by omega) _⟩
    exact ret_cell2 (fn := Try.f8) rfl _ _ (w.heap.size + 1) 29 (bs (zs 256)) _ _ rfl rfl ((r1.below h2 r1.lt).set _) Try.underlying29 rfl (by rw [bs_size, zs_length]; exact size29)
  · have HV : Hid (packV m = packB m) := by show _ = _; unfold packV; rw [hb]; rfl
    have HE : Hid (packE m = 0) := by show _ = _; unfold packE; rw [hb]; rfl
    have PT : Hid _ := fun w => mtext_any m w hf hb
    clear hb
    go_upto_region 3 with (first
      | (refine load_cells rfl 27 (.tmp 1) rfl w.heap.size rfl 27 #[.int .u64 m.seq, .int .u32 m.ep, .int .u32 m.tail, .int .u64 m.lsn, .int .u32 m.last, .int .i64 m.pg, .int .i64 m.un, .int .i64 m.lg, .int .u32 m.mx] r0 9 Try.underlying27 rfl size27 rfl ?_)
      | (go_at_call 13; refine (PM.out _).mono ?_; clear PM; rintro ex w2 ⟨rfl, h2⟩))
    have r0 := r0.below h2 r0.lt
    have r1 := r1.below h2 r1.lt
    have ab := ab.trans (h2.mono ab.size)
    clear h2
    have rp : Row (w2.alloc (.cells (bs (zs 224)) 57)) w2.heap.size (bs (zs 224)) 57 := Row.new _ _ _
    have l0 := r0.lt
    have l1 := r1.lt
    have r0 := r0.alloc (.cells (bs (zs 224)) 57)
    have r1 := r1.alloc (.cells (bs (zs 224)) 57)
    have ab := ab.alloc ab.size (.cells (bs (zs 224)) 57)
    go_upto_region 4 with fail
    generalize w2.alloc (.cells (bs (zs 224)) 57) = w3 at r0 r1 rp ab ⊢
    obtain ⟨gp, hgp⟩ : ∃ g, w2.heap.size = g := ⟨_, rfl⟩
    rw [hgp] at rp l0 l1 ⊢
    clear hgp
    obtain ⟨T, HT⟩ : ∃ T, Hid (textT m = T) := ⟨_, rfl⟩
    have hTl : T.length = 48 := by rw [← HT.out, textT_length]
    have hTb : Bytes T := by rw [← HT.out]; exact textT_bytes m
    rw [HT.out] at PT
    obtain ⟨NT, HNT⟩ : ∃ N : Int, Hid (N = (T.length : Int)) := ⟨_, rfl⟩
    have hfit : 0 + T.length ≤ (bs (zs 224)).size := by rw [bs_size, zs_length]; omega
    have hTle : T.length ≤ 224 := by omega
    refine wp_region_held_drew (S := fun w' => Row w' w.heap.size #[.int .u64 m.seq, .int .u32 m.ep, .int .u32 m.tail, .int .u64 m.lsn, .int .u32 m.last, .int .i64 m.pg, .int .i64 m.un, .int .i64 m.lg, .int .u32 m.mx] 27 ∧ Below w.heap.size w w') (by kernel_rfl) ⟨r0, ab.drew⟩ fun hS => ?_
    have r1 : Row w3.drew (w.heap.size + 1) (bs (zs 256)) 29 := r1
    have rp : Row w3.drew gp (bs (zs 224)) 57 := rp
    clear r0 ab
    generalize w3.drew = wd at hS r1 rp ⊢
    refine wpAnyH_take (i := 0) (v := .slice (some ⟨gp, 0, none⟩) 224 224) rfl (by kernel_rfl) (by kernel_rfl) (by kernel_rfl) (fun _ _ _ h => h) (Or.inl ⟨by rfl, fun w _ => by go_simp⟩) hS ?_
    try simp only [Act.put, List.getElem_toArray, List.getElem_cons_zero, List.getElem_cons_succ, List.setIfInBounds_toArray, List.set_cons_zero, List.set_cons_succ]
    refine wpAnyH_take (i := 1) (v := .agg #[.int .u64 m.seq, .int .u32 m.ep, .int .u32 m.tail, .int .u64 m.lsn, .int .u32 m.last, .int .i64 m.pg, .int .i64 m.un, .int .i64 m.lg, .int .u32 m.mx]) rfl (by kernel_rfl) (by kernel_rfl) (by kernel_rfl) (fun _ _ _ h => h) (yields_cells (by rfl) 27 (.tmp 1) rfl w.heap.size rfl 27 #[.int .u64 m.seq, .int .u32 m.ep, .int .u32 m.tail, .int .u64 m.lsn, .int .u32 m.last, .int .i64 m.pg, .int .i64 m.un, .int .i64 m.lg, .int .u32 m.mx] (fun w h => h.1) 9 Try.underlying27 rfl size27 rfl) hS ?_
    try simp only [Act.put, List.getElem_toArray, List.getElem_cons_zero, List.getElem_cons_succ, List.setIfInBounds_toArray, List.set_cons_zero, List.set_cons_succ]
    refine wpAnyH_ready (rs := [2]) (by kernel_rfl) (by simp) ?_
    refine AllReadyH.cons rfl (fun K hK => ?_) AllReadyH.nil
    go_simp
    go_at_call 23
    refine Calls.mono (PT.out _) ?_
    rintro e w1_2 ⟨rfl, hcb⟩
    have r1 := r1.below hcb r1.lt
    have rp := rp.below hcb rp.lt
    refine hK.out _ _ (⟨hS.1.below hcb hS.1.lt, hS.2.trans (hcb.mono hS.2.size)⟩) fun hS => ?_
    try simp only [Act.put, List.getElem_toArray, List.getElem_cons_zero, List.getElem_cons_succ, List.setIfInBounds_toArray, List.set_cons_zero, List.set_cons_succ]
    clear hcb
    refine wpAnyH_ready (rs := [3]) (by kernel_rfl) (by simp) ?_
    refine AllReadyH.cons rfl (fun K hK => ?_) AllReadyH.nil
    refine step_copy_text rfl (.tmp 9) (.tmp 11) 58 9 rfl 5 Try.underlying58 size5 gp 0 224 224 rfl T hTb rfl (bs (zs 224)) 57 rp hTle hfit NT HNT.out (hK.out _ _ ⟨hS.1.other (by omega) _, below_setRow hS.2 (by omega) _⟩ fun hS => ?_)
    try simp only [Act.put, List.getElem_toArray, List.getElem_cons_zero, List.getElem_cons_succ, List.setIfInBounds_toArray, List.set_cons_zero, List.set_cons_succ]
    have r1 := r1.other (g := gp) (by omega) (laidIn (bs (zs 224)) 0 T)
    have rp := rp.set (laidIn (bs (zs 224)) 0 T)
    refine wpAnyH_done (by kernel_rfl) ?_ _
    rw [laidIn_bs] at rp r1 hS ⊢
    generalize w1_2.setRow gp (bs (splice (zs 224) 0 T)) = w5 at rp r1 hS ⊢
    have rp : Row w5 gp (bs (padT T)) 57 := rp
    have hQl := padT_length T hTle
    obtain ⟨Q, HQ⟩ : ∃ Q, Hid (padT T = Q) := ⟨_, rfl⟩
    rw [HQ.out] at rp hQl
    have hQb : (bs Q).size = 224 := by rw [bs_size, hQl]
    have HSL : Hid _ := fun w => Sl.seal_any m.seq Q hQl w f1.1 f1.2
    have HB : Hid (packB m = Sl.sealN m.seq Q 4) := by show _ = _; unfold packB; rw [HT.out, HQ.out]
    have hBl := Sl.sealN_length m.seq Q 4 (by omega)
    generalize Sl.sealN m.seq Q 4 = B at HSL HB hBl
    have c0 := row_at hS.1 0 (.int .u64 m.seq) rfl
    have hBb : (bs B).size = 256 := by rw [bs_size, hBl]
    have HBL : Hid (B.length = 256) := hBl
    clear hQl hBl hTl hTle hfit hTb
    go_wp2_with (first
      | (refine load_row rfl 57 (.tmp 4) rfl gp rfl 57 (bs Q) rp 224 5 Try.underlying57 size57 hQb ?_)
      | (go_at_call 24; refine (HSL.out _).mono ?_; clear HSL; rintro ex w6 ⟨rfl, h6⟩)
      | (refine store_row rfl 29 (.tmp 2) (.tmp 16) rfl (w.heap.size + 1) B rfl rfl 29 _ (r1.below h6 r1.lt) 256 size29 (by rw [bs_size, zs_length]) HBL.out ?_))
    refine bodyPost_ret (v := .tuple #[.agg (bs B), .int .i64 0]) ?_ rfl ⟨by rw [HV.out, HE.out, HB.out], below_setRow (hS.2.trans (h6.mono hS.2.size)) (by omega) _⟩
    exact ret_cell2 (fn := Try.f8) rfl _ _ (w.heap.size + 1) 29 (bs B) _ _ rfl rfl ((r1.below h6 r1.lt).set _) Try.underlying29 rfl (by rw [hBb]; exact size29)
end Go.Proofs.Ytcbjjofckhohjaa
