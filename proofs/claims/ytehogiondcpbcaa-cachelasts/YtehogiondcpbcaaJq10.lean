/-
  Proved here: ring.Pack: a chunk's block, or that it may not be. Plain facts on sealed blocks: each byte, the stamps and the payload of a sealed block, and what Open answers of one. Proved here: ring.Unpack: the chunk of which a block is the block, or that there is none. Proved here: what was packed is told again; the statements' fixed run (awake). Proved here: ring.Frame and the document's (varveref10): a text with its length and sum ahead, or nothing. Structs as values: their cells, lists of them in slices, copies of them. A log as values and as memory; plain facts on its lists.
-/
import Derived.Test.YtehogiondcpbcaaJq09
import Derived.Laws.AppendOwnNone
import Derived.Maps.AppendAt
import Derived.Deep.MidRow
import Derived.Deep.CutBlock
import Derived.Deep.CutRange
import Derived.Great.BuildSlice
import Derived.Laws.Cover3
import Derived.Test.YtehogiondcpbcaaJq06
import Derived.Test.YtehogiondcpbcaaJq05
namespace Go.Proofs.Ytehogiondcpbcaa
open Go.ChangeShapes Go.WideShapes Go.ChangeAt Go.RowKit
set_option linter.unusedVariables false
set_option linter.unusedSimpArgs false
set_option maxRecDepth 20000
def padT (l : List Int) : List Int := splice (zs 224) 0 l
theorem padT_length (l : List Int) (h : l.length ≤ 224) : (padT l).length = 224 := by unfold padT; rw [length_splice _ _ _ (by rw [zs_length]; omega), zs_length]
theorem padT_bytes (l : List Int) (h : Bytes l) : Bytes (padT l) := (zs_bytes _).splicing _ h
theorem padT_at (l : List Int) (h : l.length ≤ 224) (j : Nat) : (padT l).getD j 0 = l.getD j 0 := by
  unfold padT
  rw [splice_getD _ _ _ _ (by rw [zs_length]; omega), if_neg (by omega)]
  by_cases hj : j < l.length
  · rw [if_pos (by omega), Nat.sub_zero]
  · rw [if_neg (by omega), zs_getD, getD_none (by omega)]
def packT (o : Int) (l : List Int) : List Int := low o 8 ++ low l.length 2 ++ l
theorem packT_length (o : Int) (l : List Int) : (packT o l).length = 10 + l.length := by simp [packT, low_length]; omega
theorem packT_bytes (o : Int) (l : List Int) (h : Bytes l) : Bytes (packT o l) := ((low_bytes _ _).append (low_bytes _ _)).append h
def packB (e n o : Int) (l : List Int) : List Int := Sl.sealN (e * 4294967296 + n) (padT (packT o l)) 4
theorem packB_length (e n o : Int) (l : List Int) : (packB e n o l).length = 256 := Sl.sealN_length _ _ 4 (by omega)
def okC (s : ByteArray) : Bool := decide (1 ≤ s.size ∧ s.size ≤ 214)
def packV (e n o : Int) (s : ByteArray) : List Int := if okC s then packB e n o (nums s) else zs 256
def packE (s : ByteArray) : Int := if okC s then 0 else 1
theorem or_hl (e n : Int) (he : 0 ≤ e ∧ e ≤ 4294967295) (hn : 0 ≤ n ∧ n ≤ 4294967295) : bits .or .u64 (e * 4294967296) n = e * 4294967296 + n := by
  obtain ⟨a, rfl⟩ := Int.eq_ofNat_of_zero_le he.1
  obtain ⟨b, rfl⟩ := Int.eq_ofNat_of_zero_le hn.1
  have e1 : ((a : Int) * 4294967296) = ((a * 4294967296 : Nat) : Int) := by omega
  rw [e1, u64_or_nat (a * 4294967296) b (by omega) (by omega), nat_join 32 (a * 4294967296) b (by omega) (by omega)]
  simp
theorem str_empty (s : ByteArray) (h : s.size = 0) : s = { data := #[] } := by
  obtain ⟨d⟩ := s
  have : d.size = 0 := h
  rw [Array.eq_empty_of_size_eq_zero this]
theorem str_ne (s : ByteArray) (h : 1 ≤ s.size) : ¬ s.toList = [] ∧ s.toList.isEmpty = false := by
  have h1 : ¬ s.toList = [] := fun q => by
    rw [ByteArray.toList_eq] at q
    have : s.data.toList.length = 0 := by rw [q]; rfl
    have e : s.data.toList.length = s.size := rfl
    omega
  exact ⟨h1, by simp [h1]⟩
set_option maxRecDepth 20000 in
set_option maxHeartbeats 4000000 in
theorem pack_any (e n o : Int) (s : ByteArray) (w : World) (he : 0 ≤ e ∧ e ≤ 4294967295) (hn : 0 ≤ n ∧ n ≤ 4294967295) (ho : 0 ≤ o ∧ o ≤ 18446744073709551615) (hs : s.size ≤ maxLen) :
    Calls Try.prog 128 #[.agg #[.int .u32 e, .int .u32 n, .int .u64 o, .string s]] w fun ex w' => ex = .returned (.tuple #[.agg (bs (packV e n o s)), .int .i64 (packE s)]) ∧ Below w.heap.size w w' := by
  unfold maxLen at hs
  have hz1 := zero41
  have hz2 := zero34
  have r0 : Row ((w.alloc (.cells #[.int .u32 e, .int .u32 n, .int .u64 o, .string s] 164)).alloc (.cells (bs (zs 256)) 41)) w.heap.size #[.int .u32 e, .int .u32 n, .int .u64 o, .string s] 164 := (Row.new _ _ _).alloc _
  have r1 : Row ((w.alloc (.cells #[.int .u32 e, .int .u32 n, .int .u64 o, .string s] 164)).alloc (.cells (bs (zs 256)) 41)) (w.heap.size + 1) (bs (zs 256)) 41 := by have := Row.new (w.alloc (.cells #[.int .u32 e, .int .u32 n, .int .u64 o, .string s] 164)) (bs (zs 256)) 41; simpa using this
  have ab : Below w.heap.size w ((w.alloc (.cells #[.int .u32 e, .int .u32 n, .int .u64 o, .string s] 164)).alloc (.cells (bs (zs 256)) 41)) := ((Below.refl _ _).alloc (Nat.le_refl _) _).alloc (by simp) _
  have hsz : Hid (((w.alloc (.cells #[.int .u32 e, .int .u32 n, .int .u64 o, .string s] 164)).alloc (.cells (bs (zs 256)) 41)).heap.size = w.heap.size + 2) := by simp [Hid]
  go_enter Try.func128, Try.ntmps128
  go_upto_region 1 with fail
  generalize (w.alloc (.cells #[.int .u32 e, .int .u32 n, .int .u64 o, .string s] 164)).alloc (.cells (bs (zs 256)) 41) = w1 at r0 r1 ab hsz ⊢
  have c3 := row_at r0 3 _ rfl
  by_cases hok : okC s = true
  · have hok' := hok
    unfold okC at hok'
    simp only [decide_eq_true_eq] at hok'
    have HV : Hid (packV e n o s = packB e n o (nums s)) := by show _ = _; unfold packV; rw [hok]; rfl
    have HE : Hid (packE s = 0) := by show _ = _; unfold packE; rw [hok]; rfl
    obtain ⟨h1, h1'⟩ := str_ne s hok'.1
    have h2 : ¬ (s.size : Int) > 214 := by omega
    have h214 : s.size ≤ 214 := hok'.2
    clear hok hok' hs
    go_upto_region 4 with fail
    clear h1 h1' h2 c3
    have rp : Row (w1.alloc (.cells (bs (zs 224)) 34)) (w.heap.size + 2) (bs (zs 224)) 34 := by rw [← hsz.out]; exact Row.new _ _ _
    have r0 := r0.alloc (.cells (bs (zs 224)) 34)
    have r1 := r1.alloc (.cells (bs (zs 224)) 34)
    have ab := ab.alloc ab.size (.cells (bs (zs 224)) 34)
    rw [hsz.out]
    generalize w1.alloc (.cells (bs (zs 224)) 34) = w2 at r0 r1 rp ab ⊢
    obtain ⟨T, HT⟩ : ∃ T, Hid (packT o (nums s) = T) := ⟨_, rfl⟩
    have hTl : T.length = 10 + s.size := by rw [← HT.out, packT_length, nums_length]
    have hTb : Bytes T := by rw [← HT.out]; exact packT_bytes _ _ (nums_bytes _)
    obtain ⟨A1, HA1⟩ : ∃ A, Hid (low o 8 = A) := ⟨_, rfl⟩
    obtain ⟨A2, HA2⟩ : ∃ A, Hid (low s.size 2 = A) := ⟨_, rfl⟩
    obtain ⟨A3, HA3⟩ : ∃ A, Hid (A1 ++ A2 = A) := ⟨_, rfl⟩
    have P1 : Hid _ := put_at o 8 A1 HA1.out (by omega) (by omega) (by decide)
    have P2 : Hid _ := put_at s.size 2 A2 HA2.out (by omega) (by omega) (by decide)
    have z1 : (strOfNums A1).size = 8 := by rw [strOfNums_size, ← HA1.out, low_length]
    have z2 : (strOfNums A2).size = 2 := by rw [strOfNums_size, ← HA2.out, low_length]
    have t1 : strOfNums A1 ++ strOfNums A2 = strOfNums A3 := by rw [tx_app, HA3.out]
    have z3 : (strOfNums A3).size = 10 := by rw [← t1, ByteArray.size_append, z1, z2]
    have t2 : strOfNums A3 ++ s = strOfNums T := by
      conv => lhs; rw [← tx_nums s]
      rw [tx_app, ← HA3.out, ← HA1.out, ← HA2.out, ← HT.out]
      unfold packT
      rw [nums_length]
    have ew : IntKind.u64.wrap (s.size : Int) = s.size := by rw [IntKind.wrap_u64]; omega
    obtain ⟨NT, HNT⟩ : ∃ N : Int, Hid (N = (T.length : Int)) := ⟨_, rfl⟩
    have hfit : 0 + T.length ≤ (bs (zs 224)).size := by rw [bs_size, zs_length]; omega
    have hTle : T.length ≤ 224 := by omega
    refine wp_region_held_drew (S := fun w' => Row w' w.heap.size #[.int .u32 e, .int .u32 n, .int .u64 o, .string s] 164 ∧ Below w.heap.size w w') (by kernel_rfl) ⟨r0, ab.drew⟩ fun hS => ?_
    have r1 : Row w2.drew (w.heap.size + 1) (bs (zs 256)) 41 := r1
    have rp : Row w2.drew (w.heap.size + 2) (bs (zs 224)) 34 := rp
    clear r0 ab
    generalize w2.drew = wd at hS r1 rp ⊢
    refine tkI (i := 0) (v := .slice (some ⟨(w.heap.size + 2), 0, none⟩) 224 224) rfl (by kernel_rfl) (Or.inl ⟨by rfl, fun w _ => by go_simp⟩) hS ?_
    try simp only [Act.put, nz]
    refine tkI (i := 1) (v := .pointer (some ⟨w.heap.size, 2, none⟩)) rfl (by kernel_rfl) (Or.inl ⟨by rfl, fun w _ => by go_simp⟩) hS ?_
    try simp only [Act.put, nz]
    refine tkI (i := 2) (v := .int .u64 o) rfl (by kernel_rfl) (Or.inl ⟨by rfl, fun w h => by have c := row_at h.1 2 _ rfl; go_simp⟩) hS ?_
    try simp only [Act.put, nz]
    refine tkI (i := 4) (v := .pointer (some ⟨w.heap.size, 3, none⟩)) rfl (by kernel_rfl) (Or.inl ⟨by rfl, fun w _ => by go_simp⟩) hS ?_
    try simp only [Act.put, nz]
    refine tkI (i := 5) (v := .string s) rfl (by kernel_rfl) (Or.inl ⟨by rfl, fun w h => by have c := row_at h.1 3 _ rfl; go_simp⟩) hS ?_
    try simp only [Act.put, nz]
    refine tkI (i := 6) (v := .int .i64 s.size) rfl (by kernel_rfl) (Or.inl ⟨by rfl, fun w _ => by go_simp⟩) hS ?_
    try simp only [Act.put, nz]
    refine tkI (i := 7) (v := .int .u64 s.size) rfl (by kernel_rfl) (Or.inl ⟨by rfl, fun w _ => by go_simp⟩) hS ?_
    try simp only [Act.put, nz]
    refine tkI (i := 10) (v := .pointer (some ⟨w.heap.size, 3, none⟩)) rfl (by kernel_rfl) (Or.inl ⟨by rfl, fun w _ => by go_simp⟩) hS ?_
    try simp only [Act.put, nz]
    refine tkI (i := 11) (v := .string s) rfl (by kernel_rfl) (Or.inl ⟨by rfl, fun w h => by have c := row_at h.1 3 _ rfl; go_simp⟩) hS ?_
    try simp only [Act.put, nz]
    refine wpAnyH_ready (rs := [3]) (by kernel_rfl) (by simp) ?_
    refine AllReadyH.cons rfl (fun K hK => ?_) AllReadyH.nil
    go_simp
    go_at_call 72
    refine Calls.mono (P1.out _) ?_
    rintro e w1_3 ⟨rfl, hcb⟩
    have r1 := r1.below hcb r1.lt
    have rp := rp.below hcb rp.lt
    refine hK.out _ _ (⟨hS.1.below hcb hS.1.lt, hS.2.trans (hcb.mono hS.2.size)⟩) fun hS => ?_
    try simp only [Act.put, nz]
    clear hcb
    refine wpAnyH_ready (rs := [8]) (by kernel_rfl) (by simp) ?_
    refine AllReadyH.cons rfl (fun K hK => ?_) AllReadyH.nil
    go_simp
    go_at_call 72
    refine Calls.mono (P2.out _) ?_
    rintro e w2_8 ⟨rfl, hcb⟩
    have r1 := r1.below hcb r1.lt
    have rp := rp.below hcb rp.lt
    refine hK.out _ _ (⟨hS.1.below hcb hS.1.lt, hS.2.trans (hcb.mono hS.2.size)⟩) fun hS => ?_
    try simp only [Act.put, nz]
    clear hcb
    refine tkI (i := 9) (v := .string (strOfNums A3)) rfl (by kernel_rfl) (Or.inl ⟨by rfl, fun w _ => by go_simp⟩) hS ?_
    try simp only [Act.put, nz]
    refine tkI (i := 12) (v := .string (strOfNums T)) rfl (by kernel_rfl) (Or.inl ⟨by rfl, fun w _ => by go_simp; omega⟩) hS ?_
    try simp only [Act.put, nz]
    refine wpAnyH_ready (rs := [13]) (by kernel_rfl) (by simp) ?_
    refine AllReadyH.cons rfl (fun K hK => ?_) AllReadyH.nil
    refine step_copy_text rfl (.tmp 15) (.tmp 27) 81 9 rfl 5 Try.underlying81 size5 (w.heap.size + 2) 0 224 224 rfl T hTb rfl (bs (zs 224)) 34 rp hTle hfit NT HNT.out (hK.out _ _ ⟨hS.1.other (by omega) _, below_setRow hS.2 (by omega) _⟩ fun hS => ?_)
    try simp only [Act.put, nz]
    have r1 := r1.other (g := w.heap.size + 2) (by omega) (laidIn (bs (zs 224)) 0 T)
    have rp := rp.set (laidIn (bs (zs 224)) 0 T)
    refine wpAnyH_done (by kernel_rfl) ?_ _
    rw [laidIn_bs] at rp r1 hS ⊢
    generalize w2_8.setRow (w.heap.size + 2) (bs (splice (zs 224) 0 T)) = w5 at rp r1 hS ⊢
    have rp : Row w5 (w.heap.size + 2) (bs (padT T)) 34 := rp
    have hQl := padT_length T hTle
    obtain ⟨Q, HQ⟩ : ∃ Q, Hid (padT T = Q) := ⟨_, rfl⟩
    rw [HQ.out] at rp hQl
    have hQb : (bs Q).size = 224 := by rw [bs_size, hQl]
    have hst : 0 ≤ e * 4294967296 + n ∧ e * 4294967296 + n ≤ 18446744073709551615 := by omega
    have HSL : Hid _ := fun w => Sl.seal_any (e * 4294967296 + n) Q hQl w hst.1 hst.2
    have HB : Hid (packB e n o (nums s) = Sl.sealN (e * 4294967296 + n) Q 4) := by show _ = _; unfold packB; rw [HT.out, HQ.out]
    have hBl := Sl.sealN_length (e * 4294967296 + n) Q 4 (by omega)
    have o1 := or_hl e n he hn
    generalize hst' : e * 4294967296 + n = st at HSL HB hBl o1
    generalize Sl.sealN st Q 4 = B at HSL HB hBl
    clear hst' hst
    have x1 : IntKind.u64.wrap e = e := by rw [IntKind.wrap_u64]; omega
    have x2 : IntKind.u64.wrap n = n := by rw [IntKind.wrap_u64]; omega
    have x3 : IntKind.u64.wrap (e * 4294967296) = e * 4294967296 := by rw [IntKind.wrap_u64]; omega
    have c0 := row_at hS.1 0 _ rfl
    have c1 := row_at hS.1 1 _ rfl
    have hBb : (bs B).size = 256 := by rw [bs_size, hBl]
    have HQL : Hid _ := hQl
    have HBL : Hid (B.length = 256) := hBl
    clear hQl hBl hTl hTle hfit hTb t1 t2 z1 z2 z3 ew
    go_wp2_with (first
      | (refine load_row rfl 34 (.tmp 4) rfl (w.heap.size + 2) rfl 34 (bs Q) rp 224 5 Try.underlying34 size34 hQb ?_)
      | (go_at_call 88; refine (HSL.out _).mono ?_; clear HSL; rintro ex w6 ⟨rfl, h6⟩)
      | (refine store_row rfl 41 (.tmp 2) (.tmp 38) rfl (w.heap.size + 1) B rfl rfl 41 _ (r1.below h6 r1.lt) 256 size41 (by rw [bs_size, zs_length]) HBL.out ?_))
    refine bodyPost_ret (v := .tuple #[.agg (bs B), .int .i64 0]) ?_ rfl ⟨by rw [HV.out, HE.out, HB.out], below_setRow (hS.2.trans (h6.mono hS.2.size)) (by omega) _⟩
    exact ret_cell2 (fn := Try.f128) rfl _ _ (w.heap.size + 1) 41 (bs B) _ _ rfl rfl ((r1.below h6 r1.lt).set _) Try.underlying41 rfl (by rw [hBb]; exact size41)
  · have HV : Hid (packV e n o s = zs 256) := by show _ = _; unfold packV; rw [if_neg hok]
    have HE : Hid (packE s = 1) := by show _ = _; unfold packE; rw [if_neg hok]
    by_cases h0 : s.size = 0
    · obtain rfl := str_empty s h0
      clear h0 hok hs
      go_wp2_with (first
        | (refine build_none rfl 41 rfl _ built41 ?_)
        | (refine store_row rfl 41 (.tmp 2) (.tmp 14) rfl (w.heap.size + 1) (zs 256) rfl rfl 41 _ r1 256 size41 (by rw [bs_size, zs_length]) (zs_length _) ?_))
      refine bodyPost_ret (v := .tuple #[.agg (bs (zs 256)), .int .i64 1]) ?_ rfl ⟨by rw [HV.out, HE.out], below_setRow ab (by omega) _⟩
      exact ret_cell2 (fn := Try.f128) rfl _ _ (w.heap.size + 1) 41 (bs (zs 256)) _ _ rfl rfl (r1.set _) Try.underlying41 rfl (by rw [bs_size, zs_length]; exact size41)
    · obtain ⟨h1, h1'⟩ := str_ne s (by omega)
      have h2 : (s.size : Int) > 214 := by
        unfold okC at hok
        simp at hok
        have := hok (by omega)
        omega
      clear h0 hok
      go_wp2_with (first
        | (refine build_none rfl 41 rfl _ built41 ?_)
        | (refine store_row rfl 41 (.tmp 2) (.tmp 14) rfl (w.heap.size + 1) (zs 256) rfl rfl 41 _ r1 256 size41 (by rw [bs_size, zs_length]) (zs_length _) ?_))
      refine bodyPost_ret (v := .tuple #[.agg (bs (zs 256)), .int .i64 1]) ?_ rfl ⟨by rw [HV.out, HE.out], below_setRow ab (by omega) _⟩
      exact ret_cell2 (fn := Try.f128) rfl _ _ (w.heap.size + 1) 41 (bs (zs 256)) _ _ rfl rfl (r1.set _) Try.underlying41 rfl (by rw [bs_size, zs_length]; exact size41)
end Go.Proofs.Ytehogiondcpbcaa
namespace Go.Proofs.Ytehogiondcpbcaa.Sl
open Go.ChangeShapes Go.WideShapes Go.ChangeAt Go.RowKit
set_option linter.unusedVariables false
set_option linter.unusedSimpArgs false
set_option maxRecDepth 20000
theorem splice_getD (l m : List Int) (o j : Nat) (h : o + m.length ≤ l.length) : (splice l o m).getD j 0 = if j < o then l.getD j 0 else if j < o + m.length then m.getD (j - o) 0 else l.getD j 0 := by
  unfold splice
  simp only [List.getD]
  have l1 : (l.take o).length = o := by rw [List.length_take]; omega
  by_cases h1 : j < o
  · rw [List.getElem?_append_left (by omega), List.getElem?_take, if_pos h1, if_pos h1]
  · rw [List.getElem?_append_right (by omega), l1, if_neg h1]
    by_cases h2 : j < o + m.length
    · rw [List.getElem?_append_left (by omega), if_pos h2]
    · rw [List.getElem?_append_right (by omega), List.getElem?_drop, if_neg h2]
      rw [show o + m.length + (j - o - m.length) = j by omega]
def sealB (v : Int) (p : List Int) (j : Nat) : Int := if j % 64 < 56 then p.getD (56 * (j / 64) + j % 64) 0 else byteOf v (j % 64 - 56)
theorem sealN_at (v : Int) (p : List Int) : ∀ k, k ≤ 4 → ∀ j, j < 64 * k → (sealN v p k).getD j 0 = sealB v p j
  | 0, _, j, hj => by omega
  | k + 1, hk, j, hj => by
    have hl := sealN_length v p k (by omega)
    have hs := secAt_length v p k 8
    unfold sealN lay
    rw [splice_getD _ _ _ _ (by omega)]
    by_cases h : j < 64 * k
    · rw [if_pos h]; exact sealN_at v p k (by omega) j h
    · rw [if_neg h, if_pos (by omega)]
      unfold secAt
      rw [fl_at _ _ _ (by omega)]
      have e1 : j / 64 = k := by omega
      have e2 : j - 64 * k = j % 64 := by omega
      unfold sealB
      rw [e1, e2]
      split
      · rfl
      · rw [if_pos (by omega)]
theorem sealN_fl (v : Int) (p : List Int) : sealN v p 4 = fl 256 (sealB v p) :=
  eq_fl _ _ _ (sealN_length v p 4 (by omega)) (fun j hj => sealN_at v p 4 (by omega) j (by omega))
theorem fl_bytes (n : Nat) (f : Nat → Int) (h : ∀ j, j < n → 0 ≤ f j ∧ f j ≤ 255) : Bytes (fl n f) := by
  intro y hy
  unfold fl at hy
  obtain ⟨j, hj, rfl⟩ := List.mem_map.1 hy
  exact h j (List.mem_range.1 hj)
theorem sealB_fits (v : Int) (p : List Int) (hp : Bytes p) (j : Nat) : 0 ≤ sealB v p j ∧ sealB v p j ≤ 255 := by
  unfold sealB
  split
  · exact hp.at _
  · exact byteOf_fits _ _
theorem sealN_bytes (v : Int) (p : List Int) (hp : Bytes p) : Bytes (sealN v p 4) := by
  rw [sealN_fl]; exact fl_bytes _ _ (fun j _ => sealB_fits v p hp j)
theorem num_congr (f g : Nat → Int) : ∀ n, (∀ j, j < n → f j = g j) → num f n = num g n
  | 0, _ => rfl
  | n + 1, h => by rw [num, num, num_congr f g n (fun j hj => h j (by omega)), h n (by omega)]
theorem stampAt_fl (b : List Int) (i : Nat) (hi : i < 4) : stampAt b i = num (fun j => b.getD (64 * i + 56 + j) 0) 8 := by
  unfold stampAt
  apply num_congr
  intro j hj
  unfold atOff
  rw [cut_getD b i (56 + j) (by omega), Nat.add_assoc]
theorem stamp_sealed (v : Int) (p : List Int) (hv : 0 ≤ v) (hv' : v ≤ 18446744073709551615) (i : Nat) (hi : i < 4) : stampAt (sealN v p 4) i = v := by
  rw [stampAt_fl _ i hi]
  refine Eq.trans (num_congr _ (byteOf v) 8 ?_) (num_whole v hv hv')
  intro j hj
  rw [sealN_at v p 4 (by omega) _ (by omega)]
  unfold sealB
  rw [if_neg (by omega)]
  congr 1; omega
theorem pay_sealed (v : Int) (p : List Int) (hp : p.length = 224) : payN (sealN v p 4) 4 = p := by
  symm
  apply eq_fl _ _ _ hp
  intro j hj
  rw [if_pos (by omega), sealN_at v p 4 (by omega) _ (by omega)]
  unfold sealB
  have e1 : (64 * (j / 56) + j % 56) % 64 = j % 56 := by omega
  have e2 : (64 * (j / 56) + j % 56) / 64 = j / 56 := by omega
  rw [e1, e2, if_pos (by omega), show 56 * (j / 56) + j % 56 = j by omega]
end Go.Proofs.Ytehogiondcpbcaa.Sl
namespace Go.Proofs.Ytehogiondcpbcaa
open Go.ChangeShapes Go.WideShapes Go.ChangeAt Go.RowKit
set_option linter.unusedVariables false
set_option linter.unusedSimpArgs false
set_option maxRecDepth 20000
theorem extract_tx (l : List Int) (a b : Nat) : (strOfNums l).extract a b = strOfNums ((l.take b).drop a) := by
  have e : ((strOfNums l).extract a b).data.toList = (strOfNums ((l.take b).drop a)).data.toList := by
    rw [strOfNums_data]
    cases h : strOfNums l with | mk d =>
    rw [ByteArray.extract_mk]
    have hd : d.toList = l.map fun n => UInt8.ofNat n.toNat := by rw [← strOfNums_data, h]
    simp [hd, List.map_drop, List.map_take, List.extract_eq_take_drop, List.drop_take]
  cases h1 : (strOfNums l).extract a b with | mk x =>
  cases h2 : strOfNums ((l.take b).drop a) with | mk y =>
  rw [h1, h2] at e
  have : x = y := by rw [← Array.toArray_toList (xs := x), ← Array.toArray_toList (xs := y)]; exact congrArg _ e
  rw [this]
theorem zero164 (w : World) : (zeroValue 164).run Try.prog w = .ok (.agg #[.int .u32 0, .int .u32 0, .int .u64 0, .string ByteArray.empty]) w := (zero_of_info (P := Try.prog) (t := 164) (v := .agg #[.int .u32 0, .int .u32 0, .int .u64 0, .string ByteArray.empty]) (n := 4) (by kernel_rfl)).1 w
theorem size164 : (Try.prog.info? 164).map (·.size) = some 4 := by kernel_rfl
def whole (b : List Int) : Bool := decide (Sl.stampAt b 1 = Sl.stampAt b 0 ∧ Sl.stampAt b 2 = Sl.stampAt b 0 ∧ Sl.stampAt b 3 = Sl.stampAt b 0)
def uE (b : List Int) : Int := Sl.stampAt b 0 / 4294967296
def uN (b : List Int) : Int := Sl.stampAt b 0 % 4294967296
def uO (b : List Int) : Int := getN (strOfNums (Sl.payN b 4)) 0 8
def uZ (b : List Int) : Int := getN (strOfNums (Sl.payN b 4)) 8 2
def uL (b : List Int) : List Int := ((Sl.payN b 4).drop 10).take (uZ b).toNat
theorem build_parts {P : Program} {ops : Array Oper} {rest : List Oper} {o : Oper} {a : Act} {w : World} {Q : Exit → Act → World → Prop} (hg : o.guard = none) (t : TypeId) (parts : Array (Nat × Operand)) (ho : o.op = .build t parts)
    (vs : List (Nat × Value)) (hv : parts.toList.map (fun x => (x.1, a.eval x.2)) = vs) (cs : Array Value) (hb : P.built t vs = some cs) (h : wpList P ops Q rest (a.put o.dst (.agg cs)) w) : wpList P ops Q (o :: rest) a w := by
  have e : (parts.map fun (i, x) => (i, a.eval x)).toList = vs := by rw [← hv, Array.toList_map]
  exact wpList_build hg t parts ho (by rw [e, hb]; rfl) (by rw [e, hb]; exact h)
theorem pack_off (o : Int) (l : List Int) (i : Nat) (hi : i < 8) : (packT o l).getD i 0 = o / 2 ^ (8 * i) % 256 := by
  unfold packT
  rw [List.append_assoc, getD_left (by rw [low_length]; exact hi), low_getD _ _ _ hi]
theorem pack_len (o : Int) (l : List Int) (i : Nat) (hi : i < 2) : (packT o l).getD (8 + i) 0 = (l.length : Int) / 2 ^ (8 * i) % 256 := by
  unfold packT
  rw [List.append_assoc, part_at _ _ _ 8 (low_length _ _) i (by rw [low_length]; exact hi), low_getD _ _ _ hi]
theorem pack_txt (o : Int) (l : List Int) (i : Nat) : (packT o l).getD (10 + i) 0 = l.getD i 0 := by
  unfold packT
  rw [getD_right (by simp [low_length])]
  congr 1
  simp [low_length]
theorem packed (e n o : Int) (l : List Int) (he : 0 ≤ e ∧ e ≤ 4294967295) (hn : 0 ≤ n ∧ n ≤ 4294967295) (ho : 0 ≤ o ∧ o ≤ 18446744073709551615) (hl : 1 ≤ l.length ∧ l.length ≤ 214) (hb : Bytes l) :
    whole (packB e n o l) = true ∧ uE (packB e n o l) = e ∧ uN (packB e n o l) = n ∧ uO (packB e n o l) = o ∧ uL (packB e n o l) = l := by
  have hpl : (padT (packT o l)).length = 224 := padT_length _ (by rw [packT_length]; omega)
  have hpb := padT_bytes _ (packT_bytes o l hb)
  have hv : 0 ≤ e * 4294967296 + n ∧ e * 4294967296 + n ≤ 18446744073709551615 := by omega
  have hs := fun i hi => Sl.stamp_sealed (e * 4294967296 + n) (padT (packT o l)) hv.1 hv.2 i hi
  have hp := Sl.pay_sealed (e * 4294967296 + n) (padT (packT o l)) hpl
  have s0 : Sl.stampAt (packB e n o l) 0 = e * 4294967296 + n := hs 0 (by omega)
  have p0 : Sl.payN (packB e n o l) 4 = padT (packT o l) := hp
  have hat : ∀ j, (padT (packT o l)).getD j 0 = (packT o l).getD j 0 := padT_at _ (by rw [packT_length]; omega)
  have z : uZ (packB e n o l) = l.length := by
    unfold uZ; rw [p0]
    exact getN_tx hpb _ (by omega) 8 2 (by omega) (by omega) fun i hi => by rw [hat, pack_len _ _ _ hi]
  refine ⟨?_, ?_, ?_, ?_, ?_⟩
  · unfold whole
    apply decide_eq_true
    exact ⟨(hs 1 (by omega)).trans (hs 0 (by omega)).symm, (hs 2 (by omega)).trans (hs 0 (by omega)).symm, (hs 3 (by omega)).trans (hs 0 (by omega)).symm⟩
  · unfold uE; rw [s0]; omega
  · unfold uN; rw [s0]; omega
  · unfold uO; rw [p0]
    exact getN_tx hpb _ ho.1 0 8 (by omega) (by omega) fun i hi => by rw [hat, Nat.zero_add, pack_off _ _ _ hi]
  · unfold uL; rw [p0, z, Int.toNat_natCast]
    apply list_ext _ _ l.length (by simp; omega) rfl
    intro i hi
    have := hat (10 + i)
    rw [pack_txt] at this
    rw [← this]
    simp only [List.getD]
    rw [List.getElem?_take, if_pos hi, List.getElem?_drop]
theorem packB_bytes (e n o : Int) (l : List Int) (hb : Bytes l) : Bytes (packB e n o l) := Sl.sealN_bytes _ _ (padT_bytes _ (packT_bytes _ _ hb))
theorem bytes_inj {a b : ByteArray} (h : a.toList = b.toList) : a = b := by
  rw [ByteArray.toList_eq, ByteArray.toList_eq] at h
  obtain ⟨⟨x⟩⟩ := a
  obtain ⟨⟨y⟩⟩ := b
  have h' : x = y := h
  rw [h']
def frT (s : ByteArray) : List Int := low s.size 2 ++ low (u (more 0#32 s)) 4 ++ nums s
def okF (s : ByteArray) : Bool := decide (1 ≤ s.size ∧ s.size ≤ 400)
def frS (s : ByteArray) : ByteArray := if okF s then strOfNums (frT s) else { data := #[] }
theorem frT_length (s : ByteArray) : (frT s).length = 6 + s.size := by simp [frT, low_length, nums_length]; omega
set_option maxRecDepth 20000 in
set_option maxHeartbeats 2000000 in
theorem frame_any (s : ByteArray) (w : World) (hs : s.size ≤ maxLen) :
    Calls Try.prog 49 #[.string s] w fun ex w' => ex = .returned (.string (frS s)) ∧ Below w.heap.size w w' := by
  have HSM : Hid _ := fun w => sum_any s w hs
  have fs := u_fits (more 0#32 s)
  unfold maxLen at hs
  by_cases hok : okF s = true
  · have hok' := hok
    unfold okF at hok'
    simp only [decide_eq_true_eq] at hok'
    have HV : Hid (frS s = strOfNums (frT s)) := by show _ = _; unfold frS; rw [hok]; rfl
    obtain ⟨h1, h1'⟩ := str_ne s hok'.1
    have h2 : ¬ (s.size : Int) > 400 := by omega
    have h400 : s.size ≤ 400 := hok'.2
    have HT : Hid (frT s = low s.size 2 ++ low (u (more 0#32 s)) 4 ++ nums s) := rfl
    obtain ⟨sm, HS⟩ : ∃ x, Hid (u (more 0#32 s) = x) := ⟨_, rfl⟩
    rw [HS.out] at HSM fs HT
    obtain ⟨A1, HA1⟩ : ∃ A, Hid (low s.size 2 = A) := ⟨_, rfl⟩
    obtain ⟨A2, HA2⟩ : ∃ A, Hid (low sm 4 = A) := ⟨_, rfl⟩
    obtain ⟨A3, HA3⟩ : ∃ A, Hid (A1 ++ A2 = A) := ⟨_, rfl⟩
    obtain ⟨T, HTT⟩ : ∃ A, Hid (frT s = A) := ⟨_, rfl⟩
    have P1 : Hid _ := put_at s.size 2 A1 HA1.out (by omega) (by omega) (by decide)
    have P2 : Hid _ := put_at sm 4 A2 HA2.out (by omega) (by omega) (by decide)
    have z1 : (strOfNums A1).size = 2 := by rw [strOfNums_size, ← HA1.out, low_length]
    have z2 : (strOfNums A2).size = 4 := by rw [strOfNums_size, ← HA2.out, low_length]
    have t1 : strOfNums A1 ++ strOfNums A2 = strOfNums A3 := by rw [tx_app, HA3.out]
    have z3 : (strOfNums A3).size = 6 := by rw [← t1, ByteArray.size_append, z1, z2]
    have t2 : strOfNums A3 ++ s = strOfNums T := by
      conv => lhs; rw [← tx_nums s]
      rw [tx_app, ← HA3.out, ← HA1.out, ← HA2.out, ← HTT.out, HT.out]
    have ew : IntKind.u64.wrap (s.size : Int) = s.size := by rw [IntKind.wrap_u64]; omega
    have ew2 : IntKind.u64.wrap sm = sm := by rw [IntKind.wrap_u64]; omega
    rw [HV.out, HTT.out]
    clear hok hok' hs
    go_enter Try.func49, Try.ntmps49
    go_wp2_with (first
      | (go_at_call 72; refine (P1.out _).mono ?_; clear P1; rintro ex w1 ⟨rfl, b1⟩)
      | (go_at_call 81; refine (HSM.out _).mono ?_; clear HSM; rintro ex w2 ⟨rfl, rfl⟩)
      | (go_at_call 72; refine (P2.out _).mono ?_; clear P2; rintro ex w3 ⟨rfl, b3⟩))
    go_ret
    exact ⟨rfl, b1.trans (b3.mono b1.size)⟩
  · have HV : Hid (frS s = { data := #[] }) := by show _ = _; unfold frS; rw [if_neg hok]
    rw [HV.out]
    by_cases h0 : s.size = 0
    · obtain rfl := str_empty s h0
      clear h0 hok hs HSM fs HV
      go_enter Try.func49, Try.ntmps49
      go_wp2
      go_ret
      exact ⟨rfl, Below.refl _ _⟩
    · obtain ⟨h1, h1'⟩ := str_ne s (by omega)
      have h2 : (s.size : Int) > 400 := by
        unfold okF at hok
        simp at hok
        have := hok (by omega)
        omega
      clear h0 hok HSM fs HV
      go_enter Try.func49, Try.ntmps49
      go_wp2
      go_ret
      exact ⟨rfl, Below.refl _ _⟩
end Go.Proofs.Ytehogiondcpbcaa
namespace Go.Proofs.Ytehogiondcpbcaa.Ck
open Go.ChangeShapes Go.WideShapes Go.ChangeAt Go.RowKit
set_option linter.unusedVariables false
set_option linter.unusedSimpArgs false
set_option maxRecDepth 20000
structure O where
  ep : Int
  num : Int
  off : Int
  txt : ByteArray
def O.zero : O := ⟨0, 0, 0, ByteArray.empty⟩
def O.cells (o : O) : List Value := [.int .u32 o.ep, .int .u32 o.num, .int .u64 o.off, .string o.txt]
def O.arr (o : O) : Array Value := #[.int .u32 o.ep, .int .u32 o.num, .int .u64 o.off, .string o.txt]
theorem O.cells_length (o : O) : o.cells.length = 4 := rfl
def flat (os : List O) : List Value := os.flatMap O.cells
theorem flat_length : ∀ os : List O, (flat os).length = os.length * 4
  | [] => rfl
  | o :: r => by
    have := flat_length r
    show (o.cells ++ flat r).length = _
    rw [List.length_append, this, O.cells_length]; simp; omega
theorem flat_at : ∀ (os : List O) (i j : Nat) (o : O), os[i]? = some o → j < 4 → (flat os)[i * 4 + j]? = o.cells[j]?
  | [], i, j, o, h, _ => by simp at h
  | p :: r, 0, j, o, h, hj => by
    simp at h; subst h
    show (p.cells ++ flat r)[0 * 4 + j]? = _
    rw [Nat.zero_mul, Nat.zero_add, List.getElem?_append_left (by rw [O.cells_length]; exact hj)]
  | p :: r, i + 1, j, o, h, hj => by
    simp at h
    show (p.cells ++ flat r)[(i + 1) * 4 + j]? = _
    rw [List.getElem?_append_right (by rw [O.cells_length]; omega), O.cells_length, show (i + 1) * 4 + j - 4 = i * 4 + j by omega]
    exact flat_at r i j o h hj
theorem flat_one : ∀ os : List O, ∀ u ∈ flat os, u.oneCell' = true := by
  intro os u hu
  obtain ⟨o, _, h⟩ := List.mem_flatMap.1 hu
  simp [O.cells] at h
  rcases h with rfl | rfl | rfl | rfl <;> rfl
theorem flat_append (a b : List O) : flat (a ++ b) = flat a ++ flat b := by simp [flat]
def Olds (w : World) (v : Value) (os : List O) : Prop :=
  (v = .slice none 0 0 ∧ os = []) ∨ ∃ a cap, v = .slice (some a) os.length cap ∧ ∀ j u, (flat os)[j]? = some u → w.cell? (a.add j) = some u
theorem cell_keep {w w' : World} {p : Addr} {u : Value} (h : w.cell? p = some u) (hb : Below w.heap.size w w') : w'.cell? p = some u := by
  rw [← h]
  refine World.cell?_of_block (hb.block _ ?_)
  unfold World.cell? at h
  by_cases q : p.block < w.heap.size
  · exact q
  · rw [Array.getElem?_eq_none (by omega)] at h; cases h
theorem Olds.keep {w w' : World} {v : Value} {os : List O} (h : Olds w v os) (hb : Below w.heap.size w w') : Olds w' v os := by
  rcases h with h | ⟨a, cap, rfl, h⟩
  · exact Or.inl h
  · exact Or.inr ⟨a, cap, rfl, fun j u hj => cell_keep (h j u hj) hb⟩
theorem add_add (a : Addr) (m j : Nat) : (a.add m).add j = a.add (m + j) := by
  unfold Addr.add
  by_cases h1 : m = 0
  · subst h1; simp
  · by_cases h2 : j = 0
    · subst h2; simp [h1]
    · rw [if_neg h2, if_neg h1, if_neg (by omega)]; simp; omega
theorem Olds.open {w : World} {v : Value} {os : List O} (h : Olds w v os) : ∃ oa cap, v = .slice oa os.length cap ∧ ∀ i, i < os.length → ∃ (a : Addr) (o : O), oa = some a ∧ os[i]? = some o ∧ ∀ j u, o.cells[j]? = some u → w.cell? ((a.add (i * 4)).add j) = some u := by
  rcases h with ⟨rfl, rfl⟩ | ⟨a, cap, rfl, h⟩
  · exact ⟨none, 0, rfl, fun i hi => absurd hi (by simp)⟩
  · refine ⟨some a, cap, rfl, fun i hi => ⟨a, os[i], rfl, by simp [hi], fun j u hj => ?_⟩⟩
    rw [add_add]
    have hj2 : j < 4 := by have := (List.getElem?_eq_some_iff.1 hj).1; simpa [O.cells] using this
    exact h _ u (by rw [flat_at os i j os[i] (by simp [hi]) hj2]; exact hj)
def Own (w : World) (base : Nat) (v : Value) (os : List O) : Prop := w.ownsRow base 164 4 v os.length (flat os)
theorem Own.olds {w : World} {base : Nat} {v : Value} {os : List O} (h : Own w base v os) : Olds w v os := by
  have hc := fun g hg => World.ownsRow.cells h (g := g) hg
  obtain ⟨h1, h2⟩ := h
  rcases h2 with ⟨rfl, h2⟩ | ⟨g, cap, cur, rfl, hb, hg, _⟩
  · exact Or.inl ⟨rfl, List.eq_nil_of_length_eq_zero h2⟩
  · exact Or.inr ⟨⟨g, 0, none⟩, cap, rfl, hc g rfl⟩
theorem Own.keep {w w' : World} {base : Nat} {v : Value} {os : List O} (h : Own w base v os) (hb : Below w.heap.size w w') : Own w' base v os := by
  have hl := World.ownsRow.lt h
  obtain ⟨h1, h2⟩ := h
  refine ⟨h1, ?_⟩
  rcases h2 with h2 | ⟨g, cap, cur, rfl, hb', hc, rest⟩
  · exact Or.inl h2
  · have := hl g (by simp [Value.ownBlock])
    exact Or.inr ⟨g, cap, cur, rfl, hb', (hb.block g this.2).trans hc, rest⟩
theorem info_parts {P : Program} {t : TypeId} {z : Option Value} {n b : Nat} (h : (P.info? t).map (fun i => (i.zero, i.size, i.bytes)) = some (z, n, b)) : ∃ i, P.info? t = some i ∧ i.zero = z ∧ i.size = n ∧ i.bytes = b := by
  obtain ⟨i, hi, e⟩ := Option.map_eq_some_iff.1 h
  simp only [Prod.mk.injEq] at e
  exact ⟨i, hi, e.1, e.2.1, e.2.2⟩
theorem info164 : (Try.prog.info? 164).map (fun i => (i.zero, i.size, i.bytes)) = some (some (.agg O.zero.arr), 4, 32) := by kernel_rfl
theorem size164 : (Try.prog.info? 164).map (·.size) = some 4 := by kernel_rfl
theorem Own.blk {w : World} {base : Nat} {v : Value} {os : List O} (h : Own w base v os) (hn : 0 < os.length) : ∃ g cap, v = .slice (some ⟨g, 0, none⟩) os.length cap ∧ base ≤ g := by
  rcases h.2 with ⟨rfl, h2⟩ | ⟨g, cap, cur, rfl, hb, _⟩
  · omega
  · exact ⟨g, cap, rfl, hb⟩
theorem Own.there {w : World} {base g n cap : Nat} {os : List O} (h : Own w base (.slice (some ⟨g, 0, none⟩) n cap) os) (s : Nat) (hs : s < os.length) : w.there g (s * 4) 4 := fun j hj => by
  rcases h.2 with ⟨q, _⟩ | ⟨g', cap', cur, q, hb, hc, hle, _, hsz, _⟩
  · cases q
  · cases q
    have r : Row w g cur 164 := hc
    refine ⟨?_, row_frozen r _⟩
    have hm : os.length * 4 ≤ cap * 4 := Nat.mul_le_mul_right _ hle
    rw [cell_of_row w g _ _ _ _ r, Array.getElem?_eq_getElem (by rw [hsz]; omega)]; rfl
theorem Own.other {w : World} {base : Nat} {v : Value} {os : List O} (h : Own w base v os) (j o : Nat) (x : Value) (hj : j < base) : Own (w.setCell ⟨j, o, none⟩ x) base v os := by
  obtain ⟨h1, h2⟩ := h
  refine ⟨h1, ?_⟩
  rcases h2 with h2 | ⟨g, cap, cur, rfl, hb', hc, rest⟩
  · exact Or.inl h2
  · exact Or.inr ⟨g, cap, cur, rfl, hb', by rw [Below.heap_setCell w _ x g (by show g ≠ j; omega)]; exact hc, rest⟩
theorem wp_copy {T : Value → World → Prop} {w : World} {o : Oper} {a : Act} {K : Act → World → Prop} {Q : Exit → Act → World → Prop} (s x : Operand) (t : TypeId)
    (ho : o.op = .call { callee := .builtin .append, args := #[s, x], argTypes := #[t, t] }) (sv v : Value) (hs : a.eval s = sv) (hx : a.eval x = v)
    (hr : ∀ ty, ∃ v' w', (Builtin.append_ #[t, t] ty #[sv, v]).run Try.prog w = .ok v' w' ∧ T v' w')
    (h : ∀ v' w', T v' w' → K (a.put o.dst v') w') : Oper.wp Try.prog o a w K Q := by
  obtain ⟨v', w', hrun, hT⟩ := hr o.type
  unfold Oper.wp
  simp [execOp, ho, resolve, invoke, builtin, hs, hx, hrun, Result.andThen]
  exact h v' w' hT
theorem wpList_copy {T : Value → World → Prop} {w : World} {ops : Array Oper} {rest : List Oper} {o : Oper} {a : Act} {Q : Exit → Act → World → Prop} (hgd : o.guard = none) (s x : Operand) (t : TypeId)
    (ho : o.op = .call { callee := .builtin .append, args := #[s, x], argTypes := #[t, t] }) (sv v : Value) (hs : a.eval s = sv) (hx : a.eval x = v)
    (hr : ∀ ty, ∃ v' w', (Builtin.append_ #[t, t] ty #[sv, v]).run Try.prog w = .ok v' w' ∧ T v' w')
    (h : ∀ v' w', T v' w' → wpList Try.prog ops Q rest (a.put o.dst v') w') : wpList Try.prog ops Q (o :: rest) a w := by
  refine wpList_plain hgd fun K hK => ?_
  obtain ⟨v', w', hrun, hT⟩ := hr o.type
  unfold Oper.wp
  simp [execOp, ho, resolve, invoke, builtin, hs, hx, hrun, Result.andThen]
  exact hK _ _ (h v' w' hT)
theorem run_copy (w : World) (ty : TypeId) (v : Value) (os : List O) (h : Olds w v os) (hn : os.length ≤ 1000000000) :
    ∃ v' w', (Builtin.append_ #[97, 97] ty #[.slice (some ⟨w.heap.size, 0, none⟩) 0 0, v]).run Try.prog (w.alloc (.cells #[] 164)) = .ok v' w' ∧ Own w' w.heap.size v' os ∧ Below w.heap.size w w' := by
  obtain ⟨i, hi, hz, hs, hb⟩ := info_parts info164
  have hown : (w.alloc (.cells #[] 164)).ownsRow w.heap.size 164 4 (.slice (some ⟨w.heap.size, 0, none⟩) 0 0) 0 [] := World.ownsRow_made w #[] 0 (Nat.le_refl _) (Nat.zero_le _) rfl
  have b0 : Below w.heap.size w (w.alloc (.cells #[] 164)) := (Below.refl _ _).alloc (Nat.le_refl _) _
  rcases h with ⟨rfl, rfl⟩ | ⟨a, cap, rfl, hc⟩
  · exact ⟨_, _, run_append_owned_none (P := Try.prog) (w := w.alloc (.cells #[] 164)) w.heap.size 97 ty 164 i 4 Try.underlying97 hi _ 0 [] hown, hown, b0⟩
  · obtain ⟨v', w', hr, h2, h3, h4, h5⟩ := run_append_own_at (P := Try.prog) (w.alloc (.cells #[] 164)) w.heap.size 97 ty 164 i _ 4 32 Try.underlying97 hi hz hs hb rfl (by decide) _ 0 [] hown a os.length cap (flat os) (flat_length os) (fun j u hj => cell_keep (hc j u hj) b0) (flat_one os) (by unfold maxLen; omega) (by omega) (by simp)
    refine ⟨v', w', hr, ?_, b0.grown h3 (by simp) (fun k hk => ?_)⟩
    · unfold Own; simpa using h2
    · simp [Value.ownBlock] at hk
      omega
theorem Own.alloc {w : World} {base : Nat} {v : Value} {os : List O} (h : Own w base v os) (o : Obj) : Own (w.alloc o) base v os := h.keep ((Below.refl _ _).alloc (Nat.le_refl _) _)
theorem Own.form {w : World} {base : Nat} {v : Value} {os : List O} (h : Own w base v os) : ∃ oa cap, v = .slice oa os.length cap := by
  rcases h.2 with ⟨rfl, h2⟩ | ⟨g, cap, cur, rfl, _⟩
  · exact ⟨none, 0, by rw [h2]⟩
  · exact ⟨_, cap, rfl⟩
theorem Own.snocP {w : World} {base : Nat} {v : Value} {os : List O} (h : Own w base v os) (ty : TypeId) (X : Nat) (p : O) (hX : Row w X p.arr 164) (hb : base ≤ w.heap.size) (hn : os.length ≤ 1000) :
    ∃ v' w', (Builtin.append_ #[97, 97] ty #[v, .slice (some ⟨X, 0, none⟩) 1 1]).run Try.prog w = .ok v' w' ∧ Own w' base v' (os ++ [p]) ∧ w.grownBy w' v.ownBlock := by
  obtain ⟨i, hi, hz, hs, hby⟩ := info_parts info164
  obtain ⟨v', w', hr, h2, h3, h4, h5⟩ := run_append_own_at (P := Try.prog) w base 97 ty 164 i _ 4 32 Try.underlying97 hi hz hs hby rfl (by decide) v os.length (flat os) h ⟨X, 0, none⟩ 1 1 p.cells rfl (fun j u hj => by rw [Addr.add_mid, Nat.zero_add, cell_of_row w X j _ _ _ hX, ← hj]; show p.cells.toArray[j]? = _; rw [List.getElem?_toArray]) (fun u hu => flat_one [p] u (by simpa [flat] using hu)) (by unfold maxLen; omega) (by omega) hb
  refine ⟨v', w', hr, ?_, h3⟩
  unfold Own
  rw [flat_append, List.length_append]
  exact h2
theorem Olds.hold {w : World} {v : Value} {os : List O} (h : Olds w v os) : ∃ oa cap, v = .slice oa os.length cap ∧ ∀ i, i < os.length → ∃ (a : Addr) (x0 : Int) (x1 : Int) (x2 : Int) (x3 : ByteArray), oa = some a ∧ os[i]? = some ⟨x0, x1, x2, x3⟩ ∧ ∀ j u, ([.int .u32 x0, .int .u32 x1, .int .u64 x2, .string x3] : List Value)[j]? = some u → w.cell? ((a.add (i * 4)).add j) = some u := by
  obtain ⟨oa, cap, h1, h2⟩ := h.open
  refine ⟨oa, cap, h1, fun i hi => ?_⟩
  obtain ⟨a, ⟨x0, x1, x2, x3⟩, e1, e2, e3⟩ := h2 i hi
  exact ⟨a, x0, x1, x2, x3, e1, e2, e3⟩
end Go.Proofs.Ytehogiondcpbcaa.Ck
namespace Go.Proofs.Ytehogiondcpbcaa
open Go.ChangeShapes Go.WideShapes Go.ChangeAt Go.RowKit
set_option linter.unusedVariables false
set_option linter.unusedSimpArgs false
set_option maxRecDepth 20000
structure Lg where
  at_ : Int
  size : Int
  ep : Int
  last : List Int
  sealed : List Ck.O
  open_ : ByteArray
  next : Int
  fresh : Bool
  fin : Int
  dur : Int
def lcells (pd vl vs : Value) (l : Lg) : Array Value := #[pd, .int .i64 l.at_, .int .i64 l.size, .int .u32 l.ep, vl, vs, .string l.open_, .int .u32 l.next, .bool l.fresh, .int .u64 l.fin, .int .u64 l.dur]
theorem size95 : (Try.prog.info? 95).map (·.size) = some 3 := by kernel_rfl
theorem zero95 (w : World) : (zeroValue 95).run Try.prog w = .ok (.agg #[.pointer none, .int .i64 0, .int .i64 0]) w := (zero_of_info (P := Try.prog) (t := 95) (v := .agg #[.pointer none, .int .i64 0, .int .i64 0]) (n := 3) (by kernel_rfl)).1 w
def OwnU (w : World) (base : Nat) (v : Value) (xs : List Int) : Prop := w.ownsRow base 37 1 v xs.length (xs.map (Value.int .u64))
theorem OwnU.nil (w : World) (base : Nat) : OwnU w base (.slice none 0 0) [] := ⟨rfl, Or.inl ⟨rfl, rfl⟩⟩
theorem OwnU.keep {w w' : World} {base : Nat} {v : Value} {xs : List Int} (h : OwnU w base v xs) (hb : Below w.heap.size w w') : OwnU w' base v xs := by
  have hl := World.ownsRow.lt h
  obtain ⟨h1, h2⟩ := h
  refine ⟨h1, ?_⟩
  rcases h2 with h2 | ⟨g, cap, cur, rfl, hb', hc, rest⟩
  · exact Or.inl h2
  · exact Or.inr ⟨g, cap, cur, rfl, hb', (hb.block g (hl g rfl).2).trans hc, rest⟩
theorem OwnU.form {w : World} {base : Nat} {v : Value} {xs : List Int} (h : OwnU w base v xs) : ∃ oa cap, v = .slice oa xs.length cap := by
  rcases h.2 with ⟨rfl, h2⟩ | ⟨g, cap, cur, rfl, _⟩
  · exact ⟨none, 0, by rw [h2]⟩
  · exact ⟨_, cap, rfl⟩
end Go.Proofs.Ytehogiondcpbcaa
