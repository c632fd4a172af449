/-
  Proved here: ring.Pack: a chunk's block, or that it may not be.
-/
import Derived.Test.YtgnedbagelhcbaaJa
import Derived.Laws.AppendOwnNone
import Derived.Maps.AppendAt
import Derived.Deep.MidRow
import Derived.Deep.CutBlock
import Derived.Deep.CutRange
import Derived.Great.BuildSlice
namespace Go.Proofs.Ytgnedbagelhcbaa
open Go.ChangeShapes Go.WideShapes Go.ChangeAt Go.RowKit
set_option linter.unusedVariables false
set_option linter.unusedSimpArgs false
set_option maxRecDepth 20000
def padT (l : List Int) : List Int := splice (zs 224) 0 l
theorem padT_length (l : List Int) (h : l.length ≤ 224) : (padT l).length = 224 := by unfold padT; rw [length_splice _ _ _ (by rw [zs_length]; omega), zs_length]
theorem padT_bytes (l : List Int) (h : Bytes l) : Bytes (padT l) := (zs_bytes _).splicing _ h
theorem padT_at (l : List Int) (h : l.length ≤ 224) (j : Nat) : (padT l).getD j 0 = l.getD j 0 := by
  unfold padT
  rw [splice_getD _ _ _ _ (by rw [zs_length]; omega), if_neg (by omega)]
  by_cases hj : j < l.length
  · rw [if_pos (by omega), Nat.sub_zero]
  · rw [if_neg (by omega), zs_getD, getD_none (by omega)]
def packT (o : Int) (l : List Int) : List Int := low o 8 ++ low l.length 2 ++ l
theorem packT_length (o : Int) (l : List Int) : (packT o l).length = 10 + l.length := by simp [packT, low_length]; omega
theorem packT_bytes (o : Int) (l : List Int) (h : Bytes l) : Bytes (packT o l) := ((low_bytes _ _).append (low_bytes _ _)).append h
def packB (e n o : Int) (l : List Int) : List Int := Sl.sealN (e * 4294967296 + n) (padT (packT o l)) 4
theorem packB_length (e n o : Int) (l : List Int) : (packB e n o l).length = 256 := Sl.sealN_length _ _ 4 (by omega)
def okC (s : ByteArray) : Bool := decide (1 ≤ s.size ∧ s.size ≤ 214)
def packV (e n o : Int) (s : ByteArray) : List Int := if okC s then packB e n o (nums s) else zs 256
def packE (s : ByteArray) : Int := if okC s then 0 else 1
theorem packV_length (e n o : Int) (s : ByteArray) : (packV e n o s).length = 256 := by
  unfold packV; split
  · exact packB_length _ _ _ _
  · exact zs_length _
theorem or_hl (e n : Int) (he : 0 ≤ e ∧ e ≤ 4294967295) (hn : 0 ≤ n ∧ n ≤ 4294967295) : bits .or .u64 (e * 4294967296) n = e * 4294967296 + n := by
  obtain ⟨a, rfl⟩ := Int.eq_ofNat_of_zero_le he.1
  obtain ⟨b, rfl⟩ := Int.eq_ofNat_of_zero_le hn.1
  have e1 : ((a : Int) * 4294967296) = ((a * 4294967296 : Nat) : Int) := by omega
  rw [e1, u64_or_nat (a * 4294967296) b (by omega) (by omega), nat_join 32 (a * 4294967296) b (by omega) (by omega)]
  simp
theorem str_empty (s : ByteArray) (h : s.size = 0) : s = { data := #[] } := by
  obtain ⟨d⟩ := s
  have : d.size = 0 := h
  rw [Array.eq_empty_of_size_eq_zero this]
theorem str_ne (s : ByteArray) (h : 1 ≤ s.size) : ¬ s.toList = [] ∧ s.toList.isEmpty = false := by
  have h1 : ¬ s.toList = [] := fun q => by
    rw [ByteArray.toList_eq] at q
    have : s.data.toList.length = 0 := by rw [q]; rfl
    have e : s.data.toList.length = s.size := rfl
    omega
  exact ⟨h1, by simp [h1]⟩
set_option maxRecDepth 20000 in
set_option maxHeartbeats 4000000 in
theorem pack_any (e n o : Int) (s : ByteArray) (w : World) (he : 0 ≤ e ∧ e ≤ 4294967295) (hn : 0 ≤ n ∧ n ≤ 4294967295) (ho : 0 ≤ o ∧ o ≤ 18446744073709551615) (hs : s.size ≤ maxLen) :
    Calls Try.prog 73 #[.agg #[.int .u32 e, .int .u32 n, .int .u64 o, .string s]] w fun ex w' => ex = .returned (.tuple #[.agg (bs (packV e n o s)), .int .i64 (packE s)]) ∧ Below w.heap.size w w' := by
  unfold maxLen at hs
  have hz1 := zero56
  have hz2 := zero148
  have r0 : Row ((w.alloc (.cells #[.int .u32 e, .int .u32 n, .int .u64 o, .string s] 65)).alloc (.cells (bs (zs 256)) 56)) w.heap.size #[.int .u32 e, .int .u32 n, .int .u64 o, .string s] 65 := (Row.new _ _ _).alloc _
  have r1 : Row ((w.alloc (.cells #[.int .u32 e, .int .u32 n, .int .u64 o, .string s] 65)).alloc (.cells (bs (zs 256)) 56)) (w.heap.size + 1) (bs (zs 256)) 56 := by have := Row.new (w.alloc (.cells #[.int .u32 e, .int .u32 n, .int .u64 o, .string s] 65)) (bs (zs 256)) 56; simpa using this
  have ab : Below w.heap.size w ((w.alloc (.cells #[.int .u32 e, .int .u32 n, .int .u64 o, .string s] 65)).alloc (.cells (bs (zs 256)) 56)) := ((Below.refl _ _).alloc (Nat.le_refl _) _).alloc (by simp) _
  have hsz : Hid (((w.alloc (.cells #[.int .u32 e, .int .u32 n, .int .u64 o, .string s] 65)).alloc (.cells (bs (zs 256)) 56)).heap.size = w.heap.size + 2) := by simp [Hid]
  go_enter Try.func73, Try.ntmps73
  go_upto_region 1 with fail
  generalize (w.alloc (.cells #[.int .u32 e, .int .u32 n, .int .u64 o, .string s] 65)).alloc (.cells (bs (zs 256)) 56) = w1 at r0 r1 ab hsz ⊢
  have c3 := row_at r0 3 _ rfl
  by_cases hok : okC s = true
  · have hok' := hok
    unfold okC at hok'
    simp only [decide_eq_true_eq] at hok'
    have HV : Hid (packV e n o s = packB e n o (nums s)) := by show _ = _; unfold packV; rw [hok]; rfl
    have HE : Hid (packE s = 0) := by show _ = _; unfold packE; rw [hok]; rfl
    obtain ⟨h1, h1'⟩ := str_ne s hok'.1
    have h2 : ¬ (s.size : Int) > 214 := by omega
    have h214 : s.size ≤ 214 := hok'.2
    clear hok hok' hs
    go_upto_region 4 with fail
    clear h1 h1' h2 c3
    have rp : Row (w1.alloc (.cells (bs (zs 224)) 148)) (w.heap.size + 2) (bs (zs 224)) 148 := by rw [← hsz.out]; exact Row.new _ _ _
    have r0 := r0.alloc (.cells (bs (zs 224)) 148)
    have r1 := r1.alloc (.cells (bs (zs 224)) 148)
    have ab := ab.alloc ab.size (.cells (bs (zs 224)) 148)
    rw [hsz.out]
    generalize w1.alloc (.cells (bs (zs 224)) 148) = w2 at r0 r1 rp ab ⊢
    obtain ⟨T, HT⟩ : ∃ T, Hid (packT o (nums s) = T) := ⟨_, rfl⟩
    have hTl : T.length = 10 + s.size := by rw [← HT.out, packT_length, nums_length]
    have hTb : Bytes T := by rw [← HT.out]; exact packT_bytes _ _ (nums_bytes _)
    obtain ⟨A1, HA1⟩ : ∃ A, Hid (low o 8 = A) := ⟨_, rfl⟩
    obtain ⟨A2, HA2⟩ : ∃ A, Hid (low s.size 2 = A) := ⟨_, rfl⟩
    obtain ⟨A3, HA3⟩ : ∃ A, Hid (A1 ++ A2 = A) := ⟨_, rfl⟩
    have P1 : Hid _ := put_at o 8 A1 HA1.out (by omega) (by omega) (by decide)
    have P2 : Hid _ := put_at s.size 2 A2 HA2.out (by omega) (by omega) (by decide)
    have z1 : (strOfNums A1).size = 8 := by rw [strOfNums_size, ← HA1.out, low_length]
    have z2 : (strOfNums A2).size = 2 := by rw [strOfNums_size, ← HA2.out, low_length]
    have t1 : strOfNums A1 ++ strOfNums A2 = strOfNums A3 := by rw [tx_app, HA3.out]
    have z3 : (strOfNums A3).size = 10 := by rw [← t1, ByteArray.size_append, z1, z2]
    have t2 : strOfNums A3 ++ s = strOfNums T := by
      conv => lhs; rw [← tx_nums s]
      rw [tx_app, ← HA3.out, ← HA1.out, ← HA2.out, ← HT.out]
      unfold packT
      rw [nums_length]
    have ew : IntKind.u64.wrap (s.size : Int) = s.size := by rw [IntKind.wrap_u64]; omega
    obtain ⟨NT, HNT⟩ : ∃ N : Int, Hid (N = (T.length : Int)) := ⟨_, rfl⟩
    have hfit : 0 + T.length ≤ (bs (zs 224)).size := by rw [bs_size, zs_length]; omega
    have hTle : T.length ≤ 224 := by omega
    refine wp_region_held_drew (S := fun w' => Row w' w.heap.size #[.int .u32 e, .int .u32 n, .int .u64 o, .string s] 65 ∧ Below w.heap.size w w') (by kernel_rfl) ⟨r0, ab.drew⟩ fun hS => ?_
    have r1 : Row w2.drew (w.heap.size + 1) (bs (zs 256)) 56 := r1
    have rp : Row w2.drew (w.heap.size + 2) (bs (zs 224)) 148 := rp
    clear r0 ab
    generalize w2.drew = wd at hS r1 rp ⊢
    refine wpAnyH_take (i := 0) (v := .slice (some ⟨(w.heap.size + 2), 0, none⟩) 224 224) rfl (by kernel_rfl) (by kernel_rfl) (by kernel_rfl) (fun _ _ _ h => h) (Or.inl ⟨by rfl, fun w _ => by go_simp⟩) hS ?_
    try simp only [Act.put, nz0, nz1, nz2, nz3, nz4, nz5]
    refine wpAnyH_take (i := 1) (v := .pointer (some ⟨w.heap.size, 2, none⟩)) rfl (by kernel_rfl) (by kernel_rfl) (by kernel_rfl) (fun _ _ _ h => h) (Or.inl ⟨by rfl, fun w _ => by go_simp⟩) hS ?_
    try simp only [Act.put, nz0, nz1, nz2, nz3, nz4, nz5]
    refine wpAnyH_take (i := 2) (v := .int .u64 o) rfl (by kernel_rfl) (by kernel_rfl) (by kernel_rfl) (fun _ _ _ h => h) (Or.inl ⟨by rfl, fun w h => by have c := row_at h.1 2 _ rfl; go_simp⟩) hS ?_
    try simp only [Act.put, nz0, nz1, nz2, nz3, nz4, nz5]
    refine wpAnyH_take (i := 4) (v := .pointer (some ⟨w.heap.size, 3, none⟩)) rfl (by kernel_rfl) (by kernel_rfl) (by kernel_rfl) (fun _ _ _ h => h) (Or.inl ⟨by rfl, fun w _ => by go_simp⟩) hS ?_
    try simp only [Act.put, nz0, nz1, nz2, nz3, nz4, nz5]
    refine wpAnyH_take (i := 5) (v := .string s) rfl (by kernel_rfl) (by kernel_rfl) (by kernel_rfl) (fun _ _ _ h => h) (Or.inl ⟨by rfl, fun w h => by have c := row_at h.1 3 _ rfl; go_simp⟩) hS ?_
    try simp only [Act.put, nz0, nz1, nz2, nz3, nz4, nz5]
    refine wpAnyH_take (i := 6) (v := .int .i64 s.size) rfl (by kernel_rfl) (by kernel_rfl) (by kernel_rfl) (fun _ _ _ h => h) (Or.inl ⟨by rfl, fun w _ => by go_simp⟩) hS ?_
    try simp only [Act.put, nz0, nz1, nz2, nz3, nz4, nz5]
    refine wpAnyH_take (i := 7) (v := .int .u64 s.size) rfl (by kernel_rfl) (by kernel_rfl) (by kernel_rfl) (fun _ _ _ h => h) (Or.inl ⟨by rfl, fun w _ => by go_simp⟩) hS ?_
    try simp only [Act.put, nz0, nz1, nz2, nz3, nz4, nz5]
    refine wpAnyH_take (i := 10) (v := .pointer (some ⟨w.heap.size, 3, none⟩)) rfl (by kernel_rfl) (by kernel_rfl) (by kernel_rfl) (fun _ _ _ h => h) (Or.inl ⟨by rfl, fun w _ => by go_simp⟩) hS ?_
    try simp only [Act.put, nz0, nz1, nz2, nz3, nz4, nz5]
    refine wpAnyH_take (i := 11) (v := .string s) rfl (by kernel_rfl) (by kernel_rfl) (by kernel_rfl) (fun _ _ _ h => h) (Or.inl ⟨by rfl, fun w h => by have c := row_at h.1 3 _ rfl; go_simp⟩) hS ?_
    try simp only [Act.put, nz0, nz1, nz2, nz3, nz4, nz5]
    refine wpAnyH_ready (rs := [3]) (by kernel_rfl) (by simp) ?_
    refine AllReadyH.cons rfl (fun K hK => ?_) AllReadyH.nil
    go_simp
    go_at_call 68
    refine Calls.mono (P1.out _) ?_
    rintro e w1_3 ⟨rfl, hcb⟩
    have r1 := r1.below hcb r1.lt
    have rp := rp.below hcb rp.lt
    refine hK.out _ _ (⟨hS.1.below hcb hS.1.lt, hS.2.trans (hcb.mono hS.2.size)⟩) fun hS => ?_
    try simp only [Act.put, nz0, nz1, nz2, nz3, nz4, nz5]
    clear hcb
    refine wpAnyH_ready (rs := [8]) (by kernel_rfl) (by simp) ?_
    refine AllReadyH.cons rfl (fun K hK => ?_) AllReadyH.nil
    go_simp
    go_at_call 68
    refine Calls.mono (P2.out _) ?_
    rintro e w2_8 ⟨rfl, hcb⟩
    have r1 := r1.below hcb r1.lt
    have rp := rp.below hcb rp.lt
    refine hK.out _ _ (⟨hS.1.below hcb hS.1.lt, hS.2.trans (hcb.mono hS.2.size)⟩) fun hS => ?_
    try simp only [Act.put, nz0, nz1, nz2, nz3, nz4, nz5]
    clear hcb
    refine wpAnyH_take (i := 9) (v := .string (strOfNums A3)) rfl (by kernel_rfl) (by kernel_rfl) (by kernel_rfl) (fun _ _ _ h => h) (Or.inl ⟨by rfl, fun w _ => by go_simp⟩) hS ?_
    try simp only [Act.put, nz0, nz1, nz2, nz3, nz4, nz5]
    refine wpAnyH_take (i := 12) (v := .string (strOfNums T)) rfl (by kernel_rfl) (by kernel_rfl) (by kernel_rfl) (fun _ _ _ h => h) (Or.inl ⟨by rfl, fun w _ => by go_simp; omega⟩) hS ?_
    try simp only [Act.put, nz0, nz1, nz2, nz3, nz4, nz5]
    refine wpAnyH_ready (rs := [13]) (by kernel_rfl) (by simp) ?_
    refine AllReadyH.cons rfl (fun K hK => ?_) AllReadyH.nil
    refine step_copy_text rfl (.tmp 15) (.tmp 27) 72 9 rfl 5 Try.underlying72 size5 (w.heap.size + 2) 0 224 224 rfl T hTb rfl (bs (zs 224)) 148 rp hTle hfit NT HNT.out (hK.out _ _ ⟨hS.1.other (by omega) _, below_setRow hS.2 (by omega) _⟩ fun hS => ?_)
    try simp only [Act.put, nz0, nz1, nz2, nz3, nz4, nz5]
    have r1 := r1.other (g := w.heap.size + 2) (by omega) (laidIn (bs (zs 224)) 0 T)
    have rp := rp.set (laidIn (bs (zs 224)) 0 T)
    refine wpAnyH_done (by kernel_rfl) ?_ _
    rw [laidIn_bs] at rp r1 hS ⊢
    generalize w2_8.setRow (w.heap.size + 2) (bs (splice (zs 224) 0 T)) = w5 at rp r1 hS ⊢
    have rp : Row w5 (w.heap.size + 2) (bs (padT T)) 148 := rp
    have hQl := padT_length T hTle
    obtain ⟨Q, HQ⟩ : ∃ Q, Hid (padT T = Q) := ⟨_, rfl⟩
    rw [HQ.out] at rp hQl
    have hQb : (bs Q).size = 224 := by rw [bs_size, hQl]
    have hst : 0 ≤ e * 4294967296 + n ∧ e * 4294967296 + n ≤ 18446744073709551615 := by omega
    have HSL : Hid _ := fun w => Sl.seal_any (e * 4294967296 + n) Q hQl w hst.1 hst.2
    have HB : Hid (packB e n o (nums s) = Sl.sealN (e * 4294967296 + n) Q 4) := by show _ = _; unfold packB; rw [HT.out, HQ.out]
    have hBl := Sl.sealN_length (e * 4294967296 + n) Q 4 (by omega)
    have o1 := or_hl e n he hn
    generalize hst' : e * 4294967296 + n = st at HSL HB hBl o1
    generalize Sl.sealN st Q 4 = B at HSL HB hBl
    clear hst' hst
    have x1 : IntKind.u64.wrap e = e := by rw [IntKind.wrap_u64]; omega
    have x2 : IntKind.u64.wrap n = n := by rw [IntKind.wrap_u64]; omega
    have x3 : IntKind.u64.wrap (e * 4294967296) = e * 4294967296 := by rw [IntKind.wrap_u64]; omega
    have c0 := row_at hS.1 0 _ rfl
    have c1 := row_at hS.1 1 _ rfl
    have hBb : (bs B).size = 256 := by rw [bs_size, hBl]
    have HQL : Hid _ := hQl
    have HBL : Hid (B.length = 256) := hBl
    clear hQl hBl hTl hTle hfit hTb t1 t2 z1 z2 z3 ew
    go_wp2_with (first
      | (refine load_row rfl 148 (.tmp 4) rfl (w.heap.size + 2) rfl 148 (bs Q) rp 224 5 Try.underlying148 size148 hQb ?_)
      | (go_at_call 89; refine (HSL.out _).mono ?_; clear HSL; rintro ex w6 ⟨rfl, h6⟩)
      | (refine store_row rfl 56 (.tmp 2) (.tmp 38) rfl (w.heap.size + 1) B rfl rfl 56 _ (r1.below h6 r1.lt) 256 size56 (by rw [bs_size, zs_length]) HBL.out ?_))
    refine bodyPost_ret (v := .tuple #[.agg (bs B), .int .i64 0]) ?_ rfl ⟨by rw [HV.out, HE.out, HB.out], below_setRow (hS.2.trans (h6.mono hS.2.size)) (by omega) _⟩
    exact ret_cell2 (fn := Try.f73) rfl _ _ (w.heap.size + 1) 56 (bs B) _ _ rfl rfl ((r1.below h6 r1.lt).set _) Try.underlying56 rfl (by rw [hBb]; exact size56)
  · have HV : Hid (packV e n o s = zs 256) := by show _ = _; unfold packV; rw [if_neg hok]
    have HE : Hid (packE s = 1) := by show _ = _; unfold packE; rw [if_neg hok]
    by_cases h0 : s.size = 0
    · obtain rfl := str_empty s h0
      clear h0 hok hs
      go_wp2_with (first
        | (refine build_none rfl 56 rfl _ built56 ?_)
        | (refine store_row rfl 56 (.tmp 2) (.tmp 14) rfl (w.heap.size + 1) (zs 256) rfl rfl 56 _ r1 256 size56 (by rw [bs_size, zs_length]) (zs_length _) ?_))
      refine bodyPost_ret (v := .tuple #[.agg (bs (zs 256)), .int .i64 1]) ?_ rfl ⟨by rw [HV.out, HE.out], below_setRow ab (by omega) _⟩
      exact ret_cell2 (fn := Try.f73) rfl _ _ (w.heap.size + 1) 56 (bs (zs 256)) _ _ rfl rfl (r1.set _) Try.underlying56 rfl (by rw [bs_size, zs_length]; exact size56)
    · obtain ⟨h1, h1'⟩ := str_ne s (by omega)
      have h2 : (s.size : Int) > 214 := by
        unfold okC at hok
        simp at hok
        have := hok (by omega)
        omega
      clear h0 hok
      go_wp2_with (first
        | (refine build_none rfl 56 rfl _ built56 ?_)
        | (refine store_row rfl 56 (.tmp 2) (.tmp 14) rfl (w.heap.size + 1) (zs 256) rfl rfl 56 _ r1 256 size56 (by rw [bs_size, zs_length]) (zs_length _) ?_))
      refine bodyPost_ret (v := .tuple #[.agg (bs (zs 256)), .int .i64 1]) ?_ rfl ⟨by rw [HV.out, HE.out], below_setRow ab (by omega) _⟩
      exact ret_cell2 (fn := Try.f73) rfl _ _ (w.heap.size + 1) 56 (bs (zs 256)) _ _ rfl rfl (r1.set _) Try.underlying56 rfl (by rw [bs_size, zs_length]; exact size56)
end Go.Proofs.Ytgnedbagelhcbaa
