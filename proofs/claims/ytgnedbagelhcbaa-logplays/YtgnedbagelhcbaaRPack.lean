/-
  Proved here: the document's Pack (varveref10).
-/
import Derived.Test.YtgnedbagelhcbaaFrame
import Derived.Test.YtgnedbagelhcbaaJk
namespace Go.Proofs.Ytgnedbagelhcbaa
open Go.ChangeShapes Go.WideShapes Go.ChangeAt Go.RowKit
set_option linter.unusedVariables false
set_option linter.unusedSimpArgs false
set_option maxRecDepth 20000
theorem upto_pad (T : List Int) (h : T.length ≤ 224) : upto 224 (fun i => T.getD i 0) T.length = padT T := by
  symm
  apply eq_fl _ _ _ (padT_length T h)
  intro j hj
  rw [padT_at T h]
  split
  · rfl
  · rw [getD_none (by omega)]
set_option maxRecDepth 20000 in
set_option maxHeartbeats 4000000 in
theorem rpack_any (e n o : Int) (s : ByteArray) (w : World) (he : 0 ≤ e ∧ e ≤ 4294967295) (hn : 0 ≤ n ∧ n ≤ 4294967295) (ho : 0 ≤ o ∧ o ≤ 18446744073709551615) (hs : s.size ≤ maxLen) :
    Calls Try.prog 63 #[.agg #[.int .u32 e, .int .u32 n, .int .u64 o, .string s]] w fun ex w' => ex = .returned (.tuple #[.agg (bs (packV e n o s)), .bool (okC s)]) ∧ Below w.heap.size w w' := by
  unfold maxLen at hs
  have hz1 := zero56
  have hz2 := zero128
  have r0 : Row ((w.alloc (.cells #[.int .u32 e, .int .u32 n, .int .u64 o, .string s] 65)).alloc (.cells (bs (zs 256)) 56)) w.heap.size #[.int .u32 e, .int .u32 n, .int .u64 o, .string s] 65 := (Row.new _ _ _).alloc _
  have r1 : Row ((w.alloc (.cells #[.int .u32 e, .int .u32 n, .int .u64 o, .string s] 65)).alloc (.cells (bs (zs 256)) 56)) (w.heap.size + 1) (bs (zs 256)) 56 := by have := Row.new (w.alloc (.cells #[.int .u32 e, .int .u32 n, .int .u64 o, .string s] 65)) (bs (zs 256)) 56; simpa using this
  have ab : Below w.heap.size w ((w.alloc (.cells #[.int .u32 e, .int .u32 n, .int .u64 o, .string s] 65)).alloc (.cells (bs (zs 256)) 56)) := ((Below.refl _ _).alloc (Nat.le_refl _) _).alloc (by simp) _
  go_enter Try.func63, Try.ntmps63
  go_upto_region 1 with fail
  generalize (w.alloc (.cells #[.int .u32 e, .int .u32 n, .int .u64 o, .string s] 65)).alloc (.cells (bs (zs 256)) 56) = w1 at r0 r1 ab ⊢
  have c3 := row_at r0 3 _ rfl
  by_cases hok : okC s = true
  · have hok' := hok
    unfold okC at hok'
    simp only [decide_eq_true_eq] at hok'
    have HV : Hid (packV e n o s = packB e n o (nums s)) := by show _ = _; unfold packV; rw [hok]; rfl
    have HE : Hid (okC s = true) := hok
    obtain ⟨h1, h1'⟩ := str_ne s hok'.1
    have h2 : ¬ (s.size : Int) > 214 := by omega
    have h214 : s.size ≤ 214 := hok'.2
    clear hok hok' hs
    go_upto_region 3 with fail
    clear h1 h1' h2 c3
    obtain ⟨T, HT⟩ : ∃ T, Hid (packT o (nums s) = T) := ⟨_, rfl⟩
    have HTL : Hid (T.length = 10 + s.size) := by show _ = _; rw [← HT.out, packT_length, nums_length]
    have HTB : Hid (Bytes T) := by show Bytes T; rw [← HT.out]; exact packT_bytes _ _ (nums_bytes _)
    obtain ⟨A1, HA1⟩ : ∃ A, Hid (low o 8 = A) := ⟨_, rfl⟩
    obtain ⟨A2, HA2⟩ : ∃ A, Hid (low s.size 2 = A) := ⟨_, rfl⟩
    obtain ⟨A3, HA3⟩ : ∃ A, Hid (A1 ++ A2 = A) := ⟨_, rfl⟩
    have P1 : Hid _ := rput_at o 8 A1 HA1.out (by omega) (by omega) (by decide)
    have P2 : Hid _ := rput_at s.size 2 A2 HA2.out (by omega) (by omega) (by decide)
    have z1 : (strOfNums A1).size = 8 := by rw [strOfNums_size, ← HA1.out, low_length]
    have z2 : (strOfNums A2).size = 2 := by rw [strOfNums_size, ← HA2.out, low_length]
    have t1 : strOfNums A1 ++ strOfNums A2 = strOfNums A3 := by rw [tx_app, HA3.out]
    have z3 : (strOfNums A3).size = 10 := by rw [← t1, ByteArray.size_append, z1, z2]
    have t2 : strOfNums A3 ++ s = strOfNums T := by
      conv => lhs; rw [← tx_nums s]
      rw [tx_app, ← HA3.out, ← HA1.out, ← HA2.out, ← HT.out]
      unfold packT
      rw [nums_length]
    have ew : IntKind.u64.wrap (s.size : Int) = s.size := by rw [IntKind.wrap_u64]; omega
    refine wp_region_held_drew (S := fun w' => Row w' w.heap.size #[.int .u32 e, .int .u32 n, .int .u64 o, .string s] 65 ∧ Below w.heap.size w w') (by kernel_rfl) ⟨r0, ab.drew⟩ fun hS => ?_
    have r1 : Row w1.drew (w.heap.size + 1) (bs (zs 256)) 56 := r1
    clear r0 ab
    generalize w1.drew = wd at hS r1 ⊢
    refine wpAnyH_take (i := 0) (v := .pointer (some ⟨w.heap.size, 2, none⟩)) rfl (by kernel_rfl) (by kernel_rfl) (by kernel_rfl) (fun _ _ _ h => h) (Or.inl ⟨by rfl, fun w _ => by go_simp⟩) hS ?_
    try simp only [Act.put, nz0, nz1, nz2, nz3, nz4, nz5]
    refine wpAnyH_take (i := 1) (v := .int .u64 o) rfl (by kernel_rfl) (by kernel_rfl) (by kernel_rfl) (fun _ _ _ h => h) (Or.inl ⟨by rfl, fun w h => by have c := row_at h.1 2 _ rfl; go_simp⟩) hS ?_
    try simp only [Act.put, nz0, nz1, nz2, nz3, nz4, nz5]
    refine wpAnyH_take (i := 3) (v := .pointer (some ⟨w.heap.size, 3, none⟩)) rfl (by kernel_rfl) (by kernel_rfl) (by kernel_rfl) (fun _ _ _ h => h) (Or.inl ⟨by rfl, fun w _ => by go_simp⟩) hS ?_
    try simp only [Act.put, nz0, nz1, nz2, nz3, nz4, nz5]
    refine wpAnyH_take (i := 4) (v := .string s) rfl (by kernel_rfl) (by kernel_rfl) (by kernel_rfl) (fun _ _ _ h => h) (Or.inl ⟨by rfl, fun w h => by have c := row_at h.1 3 _ rfl; go_simp⟩) hS ?_
    try simp only [Act.put, nz0, nz1, nz2, nz3, nz4, nz5]
    refine wpAnyH_take (i := 5) (v := .int .i64 s.size) rfl (by kernel_rfl) (by kernel_rfl) (by kernel_rfl) (fun _ _ _ h => h) (Or.inl ⟨by rfl, fun w _ => by go_simp⟩) hS ?_
    try simp only [Act.put, nz0, nz1, nz2, nz3, nz4, nz5]
    refine wpAnyH_take (i := 6) (v := .int .u64 s.size) rfl (by kernel_rfl) (by kernel_rfl) (by kernel_rfl) (fun _ _ _ h => h) (Or.inl ⟨by rfl, fun w _ => by go_simp⟩) hS ?_
    try simp only [Act.put, nz0, nz1, nz2, nz3, nz4, nz5]
    refine wpAnyH_take (i := 9) (v := .pointer (some ⟨w.heap.size, 3, none⟩)) rfl (by kernel_rfl) (by kernel_rfl) (by kernel_rfl) (fun _ _ _ h => h) (Or.inl ⟨by rfl, fun w _ => by go_simp⟩) hS ?_
    try simp only [Act.put, nz0, nz1, nz2, nz3, nz4, nz5]
    refine wpAnyH_take (i := 10) (v := .string s) rfl (by kernel_rfl) (by kernel_rfl) (by kernel_rfl) (fun _ _ _ h => h) (Or.inl ⟨by rfl, fun w h => by have c := row_at h.1 3 _ rfl; go_simp⟩) hS ?_
    try simp only [Act.put, nz0, nz1, nz2, nz3, nz4, nz5]
    refine wpAnyH_ready (rs := [2]) (by kernel_rfl) (by simp) ?_
    refine AllReadyH.cons rfl (fun K hK => ?_) AllReadyH.nil
    go_simp
    go_at_call 71
    refine Calls.mono (P1.out _) ?_
    rintro e w1_2 ⟨rfl, hcb⟩
    have r1 := r1.below hcb r1.lt
    refine hK.out _ _ (⟨hS.1.below hcb hS.1.lt, hS.2.trans (hcb.mono hS.2.size)⟩) fun hS => ?_
    try simp only [Act.put, nz0, nz1, nz2, nz3, nz4, nz5]
    clear hcb
    refine wpAnyH_ready (rs := [7]) (by kernel_rfl) (by simp) ?_
    refine AllReadyH.cons rfl (fun K hK => ?_) AllReadyH.nil
    go_simp
    go_at_call 71
    refine Calls.mono (P2.out _) ?_
    rintro e w2_7 ⟨rfl, hcb⟩
    have r1 := r1.below hcb r1.lt
    refine hK.out _ _ (⟨hS.1.below hcb hS.1.lt, hS.2.trans (hcb.mono hS.2.size)⟩) fun hS => ?_
    try simp only [Act.put, nz0, nz1, nz2, nz3, nz4, nz5]
    clear hcb
    refine wpAnyH_take (i := 8) (v := .string (strOfNums A3)) rfl (by kernel_rfl) (by kernel_rfl) (by kernel_rfl) (fun _ _ _ h => h) (Or.inl ⟨by rfl, fun w _ => by go_simp⟩) hS ?_
    try simp only [Act.put, nz0, nz1, nz2, nz3, nz4, nz5]
    refine wpAnyH_take (i := 11) (v := .string (strOfNums T)) rfl (by kernel_rfl) (by kernel_rfl) (by kernel_rfl) (fun _ _ _ h => h) (Or.inl ⟨by rfl, fun w _ => by go_simp; omega⟩) hS ?_
    try simp only [Act.put, nz0, nz1, nz2, nz3, nz4, nz5]
    refine wpAnyH_take (i := 12) (v := .string (strOfNums T)) rfl (by kernel_rfl) (by kernel_rfl) (by kernel_rfl) (fun _ _ _ h => h) (Or.inl ⟨by rfl, fun w _ => by go_simp⟩) hS ?_
    try simp only [Act.put, nz0, nz1, nz2, nz3, nz4, nz5]
    refine wpAnyH_done (by kernel_rfl) ?_ _
    obtain ⟨r0, ab⟩ := hS
    have HSZ : Hid ((strOfNums T).size = 10 + s.size) := by show _ = _; rw [strOfNums_size, HTL.out]
    have HAT : Hid (∀ i (h : i < (strOfNums T).size), (((strOfNums T)[i]'h).toNat : Int) = T.getD i 0) := fun i h => by rw [← byteAt_in, byteAt_tx HTB.out]
    clear t1 t2 z1 z2 z3 ew
    generalize w2_7 = w3 at r0 r1 ab ⊢
    have l1 := r1.lt
    have q0 : Row (w3.alloc (.cells (bs (zs 224)) 128)) w3.heap.size (bs (upto 224 (fun i => T.getD i 0) 0)) 128 := by rw [← upto_zero]; exact Row.new _ _ _
    have r0 := r0.alloc (.cells (bs (zs 224)) 128)
    have r1 := r1.alloc (.cells (bs (zs 224)) 128)
    have hB := ab.size
    have ab := ab.alloc ab.size (.cells (bs (zs 224)) 128)
    obtain ⟨L, HL⟩ : ∃ L : Nat, Hid (10 + s.size = L) := ⟨_, rfl⟩
    have hL : L ≤ 224 := by rw [← HL.out]; omega
    rw [HL.out] at HSZ HTL
    have hSZ := HSZ.out
    go_wp2
    go_loopw [6] (fun i wr => ∃ k : Nat, k ≤ L ∧ i = .int .i64 k ∧ Row wr w.heap.size #[.int .u32 e, .int .u32 n, .int .u64 o, .string s] 65 ∧ Row wr (w.heap.size + 1) (bs (zs 256)) 56 ∧ Row wr w3.heap.size (bs (upto 224 (fun i => T.getD i 0) k)) 128 ∧ Below w.heap.size w wr) (fun i _ => L - (intOf i).toNat)
    case atStart => exact ⟨0, by omega, rfl, r0, r1, q0, ab⟩
    case round =>
      clear r0 r1 q0 ab
      obtain ⟨k, hk, rfl, r0, r1, q0, ab⟩ := hrel
      by_cases hkl : k < L
      · have hx := HAT.out k (by rw [HSZ.out]; exact hkl)
        have hxb := HTB.out.at k
        have hcell := row_cell q0 k (by rw [upto_length]; omega)
        have hfz := row_frozen q0 k
        have q0' := row_setCell q0 k (T.getD k 0)
        rw [upto_step] at q0'
        have r0' := row_setCell_other r0 (show w.heap.size ≠ w3.heap.size by omega) k (.int .u8 (T.getD k 0))
        have r1' := row_setCell_other r1 (show w.heap.size + 1 ≠ w3.heap.size by omega) k (.int .u8 (T.getD k 0))
        have ab' := ab.setCell (p := ⟨w3.heap.size, k, none⟩) hB (.int .u8 (T.getD k 0))
        generalize T.getD k 0 = x at hx hxb q0' r0' r1' ab' ⊢
        generalize hv : (upto 224 (fun i => T.getD i 0) k).getD k 0 = y at hcell ⊢
        clear hv q0 HAT
        have hkl' : (k : Int) < (L : Int) := by omega
        have hk2 : (k : Int) < 224 := by omega
        go_wp2
        go_roundw
        case rel => exact ⟨k + 1, by omega, by go_num, r0', r1', q0', ab'⟩
        case measure => simp [intOf]; omega
      · obtain rfl : k = L := by omega
        have hkl' : ¬ (k : Int) < (k : Int) := by omega
        have e : upto 224 (fun i => T.getD i 0) k = padT T := by rw [← HTL.out]; exact upto_pad T (by rw [HTL.out]; exact hL)
        rw [e] at q0
        clear e HAT
        have hQl := padT_length T (by rw [HTL.out]; exact hL)
        obtain ⟨Q, HQ⟩ : ∃ Q, Hid (padT T = Q) := ⟨_, rfl⟩
        have hQy := padT_bytes T HTB.out
        rw [HQ.out] at q0 hQl hQy
        have hQb : (bs Q).size = 224 := by rw [bs_size, hQl]
        have hst : 0 ≤ e * 4294967296 + n ∧ e * 4294967296 + n ≤ 18446744073709551615 := by omega
        have HSL : Hid _ := fun w => Sl.rseal_any (e * 4294967296 + n) Q hQl hQy w hst.1 hst.2
        have HB : Hid (packB e n o (nums s) = Sl.sealN (e * 4294967296 + n) Q 4) := by show _ = _; unfold packB; rw [HT.out, HQ.out]
        have hBl := Sl.sealN_length (e * 4294967296 + n) Q 4 (by omega)
        have x1 : IntKind.u64.wrap e = e := by rw [IntKind.wrap_u64]; omega
        have x2 : IntKind.u64.wrap n = n := by rw [IntKind.wrap_u64]; omega
        have x3 : IntKind.u64.wrap (e * 4294967296) = e * 4294967296 := by rw [IntKind.wrap_u64]; omega
        have x4 : IntKind.u64.wrap (e * 4294967296 + n) = e * 4294967296 + n := by rw [IntKind.wrap_u64]; omega
        generalize Sl.sealN (e * 4294967296 + n) Q 4 = B at HSL HB hBl
        clear hst
        have c0 := row_at r0 0 _ rfl
        have c1 := row_at r0 1 _ rfl
        have hBb : (bs B).size = 256 := by rw [bs_size, hBl]
        have HBL : Hid (B.length = 256) := hBl
        clear hQl hBl hQy
        go_wp2_with (first
          | (refine load_row rfl 128 (.tmp 5) rfl w3.heap.size rfl 128 (bs Q) q0 224 5 Try.underlying128 size128 hQb ?_)
          | (go_at_call 83; refine (HSL.out _).mono ?_; clear HSL; rintro ex w6 ⟨rfl, h6⟩)
          | (refine store_row rfl 56 (.tmp 2) (.tmp 49) rfl (w.heap.size + 1) B rfl rfl 56 _ (r1.below h6 r1.lt) 256 size56 (by rw [bs_size, zs_length]) HBL.out ?_))
        refine bodyPost_ret (v := .tuple #[.agg (bs B), .bool true]) ?_ rfl ⟨by rw [HV.out, HE.out, HB.out], below_setRow (ab.trans (h6.mono ab.size)) (by omega) _⟩
        exact ret_cell2 (fn := Try.f63) rfl _ _ (w.heap.size + 1) 56 (bs B) _ _ rfl rfl ((r1.below h6 r1.lt).set _) Try.underlying56 rfl (by rw [hBb]; exact size56)
  · have HV : Hid (packV e n o s = zs 256) := by show _ = _; unfold packV; rw [if_neg hok]
    have HE : Hid (okC s = false) := by show _ = _; cases h : okC s
                                        · rfl
                                        · exact absurd h hok
    by_cases h0 : s.size = 0
    · obtain rfl := str_empty s h0
      clear h0 hok hs
      go_wp2_with (first
        | (refine build_none rfl 56 rfl _ built56 ?_)
        | (refine store_row rfl 56 (.tmp 2) (.tmp 16) rfl (w.heap.size + 1) (zs 256) rfl rfl 56 _ r1 256 size56 (by rw [bs_size, zs_length]) (zs_length _) ?_))
      refine bodyPost_ret (v := .tuple #[.agg (bs (zs 256)), .bool false]) ?_ rfl ⟨by rw [HV.out, HE.out], below_setRow ab (by omega) _⟩
      exact ret_cell2 (fn := Try.f63) rfl _ _ (w.heap.size + 1) 56 (bs (zs 256)) _ _ rfl rfl (r1.set _) Try.underlying56 rfl (by rw [bs_size, zs_length]; exact size56)
    · obtain ⟨h1, h1'⟩ := str_ne s (by omega)
      have h2 : (s.size : Int) > 214 := by
        unfold okC at hok
        simp at hok
        have := hok (by omega)
        omega
      clear h0 hok
      go_wp2_with (first
        | (refine build_none rfl 56 rfl _ built56 ?_)
        | (refine store_row rfl 56 (.tmp 2) (.tmp 16) rfl (w.heap.size + 1) (zs 256) rfl rfl 56 _ r1 256 size56 (by rw [bs_size, zs_length]) (zs_length _) ?_))
      refine bodyPost_ret (v := .tuple #[.agg (bs (zs 256)), .bool false]) ?_ rfl ⟨by rw [HV.out, HE.out], below_setRow ab (by omega) _⟩
      exact ret_cell2 (fn := Try.f63) rfl _ _ (w.heap.size + 1) 56 (bs (zs 256)) _ _ rfl rfl (r1.set _) Try.underlying56 rfl (by rw [bs_size, zs_length]; exact size56)
end Go.Proofs.Ytgnedbagelhcbaa
