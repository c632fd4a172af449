/-
  Texts as lists of bytes: a slice of an array as a text, a text copied into an array; proved here: page.refText, page.payload, page.PutData, page.LSN. Proved here: the methods of page.reader: number, ref and bytes take what stands at the reader's place, and it goes on.
-/
import Derived.Test.YtehogiondcpbcaaJq00
import Derived.Test.YtehogiondcpbcaaJq17
namespace Go.Proofs.Ytehogiondcpbcaa
open Go.ChangeShapes Go.WideShapes Go.ChangeAt Go.RowKit
set_option linter.unusedVariables false
set_option linter.unusedSimpArgs false
set_option maxRecDepth 20000
def refT (p s : Int) : List Int := low p 2 ++ low s 1
theorem refT_length (p s : Int) : (refT p s).length = 3 := by simp [refT, low_length]
theorem refT_bytes (p s : Int) : Bytes (refT p s) := (low_bytes _ _).append (low_bytes _ _)
set_option maxHeartbeats 1000000 in
theorem ref_any (p s : Int) (w : World) (hp : 0 ≤ p ∧ p ≤ 65535) (hs : 0 ≤ s ∧ s ≤ 255) :
    Calls Try.prog 75 #[.agg #[.int .u16 p, .int .u8 s]] w fun e w' => e = .returned (.string (strOfNums (refT p s))) ∧ Below w.heap.size w w' := by
  have r0 : Row (w.alloc (.cells #[.int .u16 p, .int .u8 s] 106)) w.heap.size #[.int .u16 p, .int .u8 s] 106 := Row.new _ _ _
  have b0 : Below w.heap.size w (w.alloc (.cells #[.int .u16 p, .int .u8 s] 106)) := (Below.refl _ _).alloc (Nat.le_refl _) _
  have HA : Hid (strOfNums (low p 2) ++ strOfNums (low s 1) = strOfNums (refT p s)) := tx_app
  have e1 : IntKind.u64.wrap p = p := by rw [IntKind.wrap_u64]; omega
  have e2 : IntKind.u64.wrap s = s := by rw [IntKind.wrap_u64]; omega
  have hz1 : (strOfNums (low p 2)).size = 2 := rfl
  have hz2 : (strOfNums (low s 1)).size = 1 := rfl
  go_enter Try.func75, Try.ntmps75
  go_upto_region 1 with fail
  generalize w.alloc (.cells #[.int .u16 p, .int .u8 s] 106) = w1 at r0 b0 ⊢
  refine wp_region_held_drew (S := fun w' => Row w' w.heap.size #[.int .u16 p, .int .u8 s] 106 ∧ Below w.heap.size w w') (by kernel_rfl) ⟨r0, b0.drew⟩ fun hS => ?_
  clear r0 b0
  refine tkI (i := 0) (v := .pointer (some ⟨w.heap.size, 0, none⟩)) rfl (Or.inl ⟨by rfl, fun w _ => by go_simp⟩) hS ?_
  try simp only [Act.put, nz]
  refine tkI (i := 1) (v := .int .u16 p) rfl (Or.inl ⟨by rfl, fun w h => by have c := row_at h.1 0 _ rfl; go_simp⟩) hS ?_
  try simp only [Act.put, nz]
  refine tkI (i := 2) (v := .int .u64 p) rfl (Or.inl ⟨by rfl, fun w _ => by go_simp⟩) hS ?_
  try simp only [Act.put, nz]
  refine tkI (i := 4) (v := .pointer (some ⟨w.heap.size, 1, none⟩)) rfl (Or.inl ⟨by rfl, fun w _ => by go_simp⟩) hS ?_
  try simp only [Act.put, nz]
  refine tkI (i := 5) (v := .int .u8 s) rfl (Or.inl ⟨by rfl, fun w h => by have c := row_at h.1 1 _ rfl; go_simp⟩) hS ?_
  try simp only [Act.put, nz]
  refine tkI (i := 6) (v := .int .u64 s) rfl (Or.inl ⟨by rfl, fun w _ => by go_simp⟩) hS ?_
  try simp only [Act.put, nz]
  refine wpAnyH_ready (rs := [3]) (by kernel_rfl) (by simp) ?_
  refine AllReadyH.cons rfl (fun K hK => ?_) AllReadyH.nil
  go_simp
  go_at_call 72
  refine (put_any p 2 _ (by omega) (by omega) (by decide)).mono ?_
  rintro e wc ⟨rfl, hcb⟩
  refine hK.out _ _ (⟨hS.1.below hcb hS.1.lt, hS.2.trans (hcb.mono hS.2.size)⟩) fun hS => ?_
  try simp only [Act.put, nz]
  refine wpAnyH_ready (rs := [7]) (by kernel_rfl) (by simp) ?_
  refine AllReadyH.cons rfl (fun K hK => ?_) AllReadyH.nil
  go_simp
  go_at_call 72
  refine (put_any s 1 _ (by omega) (by omega) (by decide)).mono ?_
  rintro e wc ⟨rfl, hcb⟩
  refine hK.out _ _ (⟨hS.1.below hcb hS.1.lt, hS.2.trans (hcb.mono hS.2.size)⟩) fun hS => ?_
  try simp only [Act.put, nz]
  refine tkI (i := 8) (v := .string (strOfNums (refT p s))) rfl (Or.inl ⟨by rfl, fun w _ => by go_simp; exact HA.out⟩) hS ?_
  try simp only [Act.put, nz]
  refine tkI (i := 9) (v := .string (strOfNums (refT p s))) rfl (Or.inl ⟨by rfl, fun w _ => by go_simp⟩) hS ?_
  try simp only [Act.put, nz]
  refine wpAnyH_done (by kernel_rfl) ?_ _
  go_wp2
  go_ret
  exact ⟨rfl, hS.2⟩
def headT (k no lsn : Int) : List Int := low k 1 ++ low no 2 ++ low 0 4 ++ low lsn 8
theorem headT_length (k no lsn : Int) : (headT k no lsn).length = 15 := by simp [headT, low_length]
theorem headT_bytes (k no lsn : Int) : Bytes (headT k no lsn) := (((low_bytes _ _).append (low_bytes _ _)).append (low_bytes _ _)).append (low_bytes _ _)
def sumT (l : List Int) : Int := u (more 0#32 (strOfNums l))
theorem sumT_fits (l : List Int) : 0 ≤ sumT l ∧ sumT l ≤ 4294967295 := u_fits _
def sealT (q : List Int) : List Int := splice q 3 (low (sumT q) 4)
theorem sealT_length (q : List Int) (h : q.length = 224) : (sealT q).length = 224 := by unfold sealT; rw [length_splice _ _ _ (by rw [low_length]; omega), h]
theorem sealT_bytes (q : List Int) (h : Bytes q) : Bytes (sealT q) := h.splicing _ (low_bytes _ _)
def payT (k no lsn : Int) (t : List Int) : List Int := sealT (padT (headT k no lsn ++ t))
theorem payT_length (k no lsn : Int) (t : List Int) (h : t.length ≤ 209) : (payT k no lsn t).length = 224 := sealT_length _ (padT_length _ (by rw [List.length_append, headT_length]; omega))
theorem payT_bytes (k no lsn : Int) (t : List Int) (h : Bytes t) : Bytes (payT k no lsn t) := sealT_bytes _ (padT_bytes _ ((headT_bytes _ _ _).append h))
theorem slice34 (g : Nat) (w : World) : (Instr.sliceAt 34 (.pointer (some ⟨g, 0, none⟩)) none none none).run Try.prog w = .ok (.slice (some ⟨g, 0, none⟩) 224 224) w := by go_simp
set_option maxHeartbeats 1000000 in
theorem payload_any (k no lsn : Int) (t : List Int) (w : World) (hk : 0 ≤ k ∧ k ≤ 255) (hno : 0 ≤ no ∧ no ≤ 65535) (hl : 0 ≤ lsn ∧ lsn ≤ 18446744073709551615) (ht : t.length ≤ 209) (hty : Bytes t) :
    Calls Try.prog 74 #[.int .u64 k, .int .u16 no, .int .u64 lsn, .string (strOfNums t)] w fun e w' => e = .returned (.agg (bs (payT k no lsn t))) ∧ Below w.heap.size w w' := by
  have hz := zero34
  have r0 : Row (w.alloc (.cells (bs (zs 224)) 34)) w.heap.size (bs (zs 224)) 34 := Row.new _ _ _
  have b0 : Below w.heap.size w (w.alloc (.cells (bs (zs 224)) 34)) := (Below.refl _ _).alloc (Nat.le_refl _) _
  have ewn : IntKind.u64.wrap no = no := by rw [IntKind.wrap_u64]; omega
  obtain ⟨H, HH⟩ : ∃ H, Hid (headT k no lsn = H) := ⟨_, rfl⟩
  obtain ⟨K1, HK1⟩ : ∃ A, Hid (low k 1 = A) := ⟨_, rfl⟩
  obtain ⟨N2, HN2⟩ : ∃ A, Hid (low no 2 = A) := ⟨_, rfl⟩
  obtain ⟨Z4, HZ4⟩ : ∃ A, Hid (low 0 4 = A) := ⟨_, rfl⟩
  obtain ⟨L8, HL8⟩ : ∃ A, Hid (low lsn 8 = A) := ⟨_, rfl⟩
  obtain ⟨A2, HA2⟩ : ∃ A, Hid (K1 ++ N2 = A) := ⟨_, rfl⟩
  obtain ⟨A3, HA3⟩ : ∃ A, Hid (A2 ++ Z4 = A) := ⟨_, rfl⟩
  have ha1 : strOfNums K1 ++ strOfNums N2 = strOfNums A2 := by rw [tx_app, HA2.out]
  have ha2 : strOfNums A2 ++ strOfNums Z4 = strOfNums A3 := by rw [tx_app, HA3.out]
  have ha3 : strOfNums A3 ++ strOfNums L8 = strOfNums H := by rw [tx_app, ← HA3.out, ← HA2.out, ← HK1.out, ← HN2.out, ← HZ4.out, ← HL8.out, ← HH.out]; rfl
  have hz1 : (strOfNums K1).size = 1 := by rw [strOfNums_size, ← HK1.out, low_length]
  have hz2 : (strOfNums N2).size = 2 := by rw [strOfNums_size, ← HN2.out, low_length]
  have hz4 : (strOfNums Z4).size = 4 := by rw [strOfNums_size, ← HZ4.out, low_length]
  have hz6 : (strOfNums L8).size = 8 := by rw [strOfNums_size, ← HL8.out, low_length]
  have hz3 : (strOfNums A2).size = 3 := by rw [← ha1, ByteArray.size_append, hz1, hz2]
  have hz5 : (strOfNums A3).size = 7 := by rw [← ha2, ByteArray.size_append, hz3, hz4]
  have P1 : Hid _ := put_at k 1 K1 HK1.out (by omega) (by omega) (by decide)
  have P2 : Hid _ := put_at no 2 N2 HN2.out (by omega) (by omega) (by decide)
  have P3 : Hid _ := put_at 0 4 Z4 HZ4.out (by omega) (by omega) (by decide)
  have P4 : Hid _ := put_at lsn 8 L8 HL8.out (by omega) (by omega) (by decide)
  have hH15 : H.length = 15 := by rw [← HH.out]; exact headT_length _ _ _
  have hHb : Bytes H := by rw [← HH.out]; exact headT_bytes _ _ _
  have hz7 : (strOfNums H).size = 15 := by rw [strOfNums_size, hH15]
  have hz8 : (strOfNums t).size = t.length := strOfNums_size t
  have ha4 : strOfNums H ++ strOfNums t = strOfNums (H ++ t) := tx_app
  go_enter Try.func74, Try.ntmps74
  go_upto_region 2 with (first
    | (go_at_call 72; refine (P1.out _).mono ?_; clear P1; rintro e w1 ⟨rfl, h1⟩)
    | (go_at_call 72; refine (P2.out _).mono ?_; clear P2; rintro e w2 ⟨rfl, h2⟩)
    | (go_at_call 72; refine (P3.out _).mono ?_; clear P3; rintro e w3 ⟨rfl, h3⟩)
    | (go_at_call 72; refine (P4.out _).mono ?_; clear P4; rintro e w4 ⟨rfl, h4⟩))
  have b4 : Below w.heap.size w w4 := (((b0.trans (h1.mono b0.size)).trans (h2.mono (b0.trans (h1.mono b0.size)).size)).trans (h3.mono ((b0.trans (h1.mono b0.size)).trans (h2.mono (b0.trans (h1.mono b0.size)).size)).size)).trans (h4.mono (((b0.trans (h1.mono b0.size)).trans (h2.mono (b0.trans (h1.mono b0.size)).size)).trans (h3.mono ((b0.trans (h1.mono b0.size)).trans (h2.mono (b0.trans (h1.mono b0.size)).size)).size)).size)
  have s1 := r0.below h1 r0.lt
  have s2 := s1.below h2 s1.lt
  have s3 := s2.below h3 s2.lt
  have s4 := s3.below h4 s3.lt
  clear r0 b0 s1 s2 s3 h1 h2 h3 h4 ha1 ha2 ha3 hz1 hz2 hz3 hz4 hz5 hz6
  have hgt := s4.lt
  have a0 := s4.alloc (.cells (bs (zs 224)) 34)
  have a1 : Row (w4.alloc (.cells (bs (zs 224)) 34)) w4.heap.size (bs (zs 224)) 34 := Row.new _ _ _
  have ab : Below w.heap.size w (w4.alloc (.cells (bs (zs 224)) 34)) := b4.alloc b4.size _
  have hlen : (H ++ t).length ≤ 224 := by rw [List.length_append]; omega
  have hfit : 0 + (H ++ t).length ≤ (bs (zs 224)).size := by rw [bs_size, zs_length]; omega
  have hby : Bytes (H ++ t) := hHb.append hty
  obtain ⟨n, HN⟩ : ∃ n : Int, Hid (n = ((H ++ t).length : Int)) := ⟨_, rfl⟩
  go_upto_region 4 with (refine copy_text rfl (.tmp 22) (.tmp 25) 81 9 rfl 5 Try.underlying81 size5 w4.heap.size 0 224 224 rfl (H ++ t) hby rfl (bs (zs 224)) 34 a1 hlen hfit n HN.out ?_)
  have c0 : Row ((w4.alloc (.cells (bs (zs 224)) 34)).setRow w4.heap.size (laidIn (bs (zs 224)) 0 (H ++ t))) w.heap.size (bs (zs 224)) 34 := a0.other (by omega) _
  have c1 : Row ((w4.alloc (.cells (bs (zs 224)) 34)).setRow w4.heap.size (laidIn (bs (zs 224)) 0 (H ++ t))) w4.heap.size (bs (padT (H ++ t))) 34 := by have := a1.set (laidIn (bs (zs 224)) 0 (H ++ t)); rw [laidIn_bs] at this ⊢; exact this
  have cb : Below w.heap.size w ((w4.alloc (.cells (bs (zs 224)) 34)).setRow w4.heap.size (laidIn (bs (zs 224)) 0 (H ++ t))) := below_setRow ab b4.size _
  clear a0 a1 ab s4
  generalize (w4.alloc (.cells (bs (zs 224)) 34)).setRow w4.heap.size (laidIn (bs (zs 224)) 0 (H ++ t)) = w5 at c0 c1 cb ⊢
  have hg2 := b4.size
  generalize w4.heap.size = g at c1 hg2 hgt ⊢
  have hql := padT_length (H ++ t) hlen
  have hqb := padT_bytes (H ++ t) hby
  obtain ⟨q, HQ⟩ : ∃ q, Hid (padT (H ++ t) = q) := ⟨_, rfl⟩
  rw [HQ.out] at c1 hql hqb
  obtain ⟨sm, HS⟩ : ∃ x, Hid (sumT q = x) := ⟨_, rfl⟩
  have hsf := sumT_fits q
  rw [HS.out] at hsf
  have ews : IntKind.u64.wrap sm = sm := by rw [IntKind.wrap_u64]; omega
  have hqz : (strOfNums q).size ≤ maxLen := by rw [strOfNums_size, hql]; unfold maxLen; omega
  have HRES : Hid (bs (payT k no lsn t) = laidIn (bs q) 3 (low sm 4)) := by show _ = _; rw [laidIn_bs, ← HS.out, ← HQ.out, ← HH.out]; rfl
  have hRl := payT_length k no lsn t ht
  refine wp_region_held_drew (S := fun w' => Row w' w.heap.size (bs (zs 224)) 34 ∧ Below w.heap.size w w') (by kernel_rfl) ⟨c0, cb.drew⟩ fun hS => ?_
  have c2 : Row w5.drew g (bs q) 34 := c1
  clear c0 c1 cb
  refine tkI (i := 0) (v := .slice (some ⟨g, 3, none⟩) 221 221) rfl (Or.inl ⟨by rfl, fun w _ => by go_simp⟩) hS ?_
  try simp only [Act.put, nz]
  refine tkI (i := 1) (v := .slice (some ⟨g, 0, none⟩) 224 224) rfl (Or.inl ⟨by rfl, fun w _ => by go_simp⟩) hS ?_
  try simp only [Act.put, nz]
  refine wpAnyH_ready (rs := [2]) (by kernel_rfl) (by simp) ?_
  refine AllReadyH.cons rfl (fun K hK => ?_) AllReadyH.nil
  have cc := str_row c2 224 224 hql
  go_simp
  refine hK.out _ _ (hS) fun hS => ?_
  try simp only [Act.put, nz]
  clear cc
  refine wpAnyH_ready (rs := [3]) (by kernel_rfl) (by simp) ?_
  refine AllReadyH.cons rfl (fun K hK => ?_) AllReadyH.nil
  go_simp
  go_at_call 81
  refine (sum_any (strOfNums q) _ hqz).mono ?_
  have HS2 : u (more 0#32 (strOfNums q)) = sm := HS.out
  rw [HS2]
  clear HS2
  rintro e wc ⟨rfl, rfl⟩
  refine hK.out _ _ (hS) fun hS => ?_
  try simp only [Act.put, nz]
  refine tkI (i := 4) (v := .int .u64 sm) rfl (Or.inl ⟨by rfl, fun w _ => by go_simp⟩) hS ?_
  try simp only [Act.put, nz]
  refine wpAnyH_ready (rs := [5]) (by kernel_rfl) (by simp) ?_
  refine AllReadyH.cons rfl (fun K hK => ?_) AllReadyH.nil
  go_simp
  go_at_call 72
  refine (put_any sm 4 _ (by omega) (by omega) (by decide)).mono ?_
  rintro e wc ⟨rfl, hcb⟩
  refine hK.out _ _ (⟨hS.1.below hcb hS.1.lt, hS.2.trans (hcb.mono hS.2.size)⟩) fun hS => ?_
  try simp only [Act.put, nz]
  have c3 := c2.below hcb c2.lt
  refine wpAnyH_ready (rs := [6]) (by kernel_rfl) (by simp) ?_
  refine AllReadyH.cons rfl (fun K hK => step_copy_text rfl (.tmp 27) (.tmp 32) 81 9 rfl 5 Try.underlying81 size5 g 3 221 221 rfl (low sm 4) (low_bytes _ _) rfl (bs q) 34 c3 (by rw [low_length]; omega) (by rw [low_length, bs_size, hql]; omega) 4 rfl (hK.out _ _ ⟨hS.1.other (by omega) _, below_setRow hS.2 hg2 _⟩ fun hS => ?_)) AllReadyH.nil
  try simp only [Act.put, nz]
  have c4 := c3.set (laidIn (bs q) 3 (low sm 4))
  rw [← HRES.out] at c4 hS ⊢
  refine wpAnyH_done (by kernel_rfl) ?_ _
  go_wp2_with (first
    | (refine load_row rfl 34 (.tmp 10) rfl g rfl 34 (bs (payT k no lsn t)) c4 224 5 Try.underlying34 size34 (by rw [bs_size, hRl]) ?_)
    | (refine store_row rfl 34 (.tmp 8) (.tmp 34) rfl w.heap.size (payT k no lsn t) rfl rfl 34 _ hS.1 224 size34 (by rw [bs_size, zs_length]) hRl ?_))
  refine bodyPost_ret (v := .agg (bs (payT k no lsn t))) ?_ rfl ⟨rfl, below_setRow hS.2 (Nat.le_refl _) _⟩
  exact ret_row (fn := Try.f74) rfl _ _ w.heap.size 34 (bs (payT k no lsn t)) 224 5 rfl (hS.1.set _) Try.underlying34 size34 (by rw [bs_size, hRl])
set_option maxHeartbeats 1000000 in
theorem number_any (g : Nat) (s : ByteArray) (a n : Nat) (w : World) (hr : Row w g #[.string s, .int .i64 a] 179) (hs : s.size ≤ maxLen) (hn : n ≤ 8) (ha : a ≤ 1000000) :
    Calls Try.prog 97 #[.pointer (some ⟨g, 0, none⟩), .int .i64 n] w fun e w' => e = .returned (.int .u64 (getN s a n)) ∧ Row w' g #[.string s, .int .i64 (a + n : Nat)] 179 ∧ Off (· = g) w w' := by
  obtain ⟨v, HV⟩ : ∃ v, Hid (getN s a n = v) := ⟨_, rfl⟩
  obtain ⟨b, HB⟩ : ∃ b, Hid (decide (a + n ≤ s.size) = b) := ⟨_, rfl⟩
  have HG : Hid _ := get_all s a n hs hn (by omega)
  rw [HV.out, HB.out] at HG
  rw [HV.out]
  have hr1 : Row w.drew g #[.string s, .int .i64 a] 179 := hr
  have c0 := row_at hr1 0 _ rfl
  have c1 := row_at hr1 1 _ rfl
  have f1 := row_frozen hr1 1
  have ew : IntKind.i64.wrap ((a : Int) + n) = ((a + n : Nat) : Int) := by rw [IntKind.wrap_i64]; omega
  have r2 : Row (w.drew.setCell ⟨g, 1, none⟩ (.int .i64 ((a + n : Nat) : Int))) g #[.string s, .int .i64 ((a + n : Nat) : Int)] 179 := row_set hr1 1 _
  have o2 : Off (· = g) w (w.drew.setCell ⟨g, 1, none⟩ (.int .i64 ((a + n : Nat) : Int))) := (Off.refl _ w).drew.trans (Off.of_setCell (F := (· = g)) _ _ _ rfl) (fun j hj => Or.inl hj)
  go_enter Try.func97, Try.ntmps97
  go_upto_region 1 with fail
  refine wp_region_held_drew (S := fun w' => w' = w.drew) (by kernel_rfl) rfl fun hS => ?_
  refine tkI (i := 0) (v := .pointer (some ⟨g, 0, none⟩)) rfl (Or.inl ⟨by rfl, fun w _ => by go_simp⟩) hS ?_
  try simp only [Act.put, nz]
  refine tkI (i := 1) (v := .pointer (some ⟨g, 0, none⟩)) rfl (Or.inl ⟨by rfl, fun w _ => by go_simp⟩) hS ?_
  try simp only [Act.put, nz]
  refine tkI (i := 2) (v := .pointer (some ⟨g, 0, none⟩)) rfl (Or.inl ⟨by rfl, fun w _ => by go_simp⟩) hS ?_
  try simp only [Act.put, nz]
  refine tkI (i := 3) (v := .string s) rfl (Or.inl ⟨by rfl, fun w h => by subst h; go_simp⟩) hS ?_
  try simp only [Act.put, nz]
  refine tkI (i := 4) (v := .pointer (some ⟨g, 0, none⟩)) rfl (Or.inl ⟨by rfl, fun w _ => by go_simp⟩) hS ?_
  try simp only [Act.put, nz]
  refine tkI (i := 5) (v := .pointer (some ⟨g, 0, none⟩)) rfl (Or.inl ⟨by rfl, fun w _ => by go_simp⟩) hS ?_
  try simp only [Act.put, nz]
  refine tkI (i := 6) (v := .pointer (some ⟨g, 1, none⟩)) rfl (Or.inl ⟨by rfl, fun w _ => by go_simp⟩) hS ?_
  try simp only [Act.put, nz]
  refine tkI (i := 7) (v := .int .i64 a) rfl (Or.inl ⟨by rfl, fun w h => by subst h; go_simp⟩) hS ?_
  try simp only [Act.put, nz]
  refine tkI (i := 8) (v := .int .i64 n) rfl (Or.inl ⟨by rfl, fun w _ => by go_simp⟩) hS ?_
  try simp only [Act.put, nz]
  refine wpAnyH_ready (rs := [9]) (by kernel_rfl) (by simp) ?_
  refine AllReadyH.cons rfl (fun K hK => ?_) AllReadyH.nil
  go_simp
  go_at_call 42
  refine (HG.out _).mono ?_
  rintro e wc ⟨rfl, rfl⟩
  refine hK.out _ _ (hS) fun hS => ?_
  try simp only [Act.put, nz]
  refine tkI (i := 10) (v := .tuple #[.int .u64 v, .bool b]) rfl (Or.inl ⟨by rfl, fun w _ => by go_simp⟩) hS ?_
  try simp only [Act.put, nz]
  refine tkI (i := 11) (v := .int .u64 v) rfl (Or.inl ⟨by rfl, fun w _ => by go_simp⟩) hS ?_
  try simp only [Act.put, nz]
  refine tkI (i := 12) (v := .bool b) rfl (Or.inl ⟨by rfl, fun w _ => by go_simp⟩) hS ?_
  try simp only [Act.put, nz]
  refine tkI (i := 13) (v := .int .u64 v) rfl (Or.inl ⟨by rfl, fun w _ => by go_simp⟩) hS ?_
  try simp only [Act.put, nz]
  refine tkI (i := 14) (v := .bool b) rfl (Or.inl ⟨by rfl, fun w _ => by go_simp⟩) hS ?_
  try simp only [Act.put, nz]
  refine wpAnyH_done (by kernel_rfl) ?_ _
  clear hS
  go_wp2
  go_ret
  exact ⟨rfl, r2, o2⟩
theorem size179 : (Try.prog.info? 179).map (·.size) = some 2 := by kernel_rfl
theorem size106 : (Try.prog.info? 106).map (·.size) = some 2 := by kernel_rfl
theorem zero106 (w : World) : (zeroValue 106).run Try.prog w = .ok (.agg #[.int .u16 0, .int .u8 0]) w := (zero_of_info (P := Try.prog) (t := 106) (v := .agg #[.int .u16 0, .int .u8 0]) (n := 2) (by kernel_rfl)).1 w
set_option maxHeartbeats 1000000 in
theorem rref_any (g : Nat) (s : ByteArray) (a : Nat) (w : World) (hr : Row w g #[.string s, .int .i64 a] 179) (hs : s.size ≤ maxLen) (ha : a ≤ 500000) :
    Calls Try.prog 99 #[.pointer (some ⟨g, 0, none⟩)] w fun e w' => e = .returned (.agg #[.int .u16 (getN s a 2), .int .u8 (getN s (a + 2) 1)]) ∧ Row w' g #[.string s, .int .i64 (a + 3 : Nat)] 179 ∧ Off (· = g) w w' := by
  have f1 := getN_fits s a 2
  have f2 := getN_fits s (a + 2) 1
  have HN1 : Hid _ := fun w h => number_any g s a 2 w h hs (by decide) (by omega)
  have HN2 : Hid _ := fun w h => number_any g s (a + 2) 1 w h hs (by decide) (by omega)
  obtain ⟨v1, HV1⟩ : ∃ v, Hid (getN s a 2 = v) := ⟨_, rfl⟩
  obtain ⟨v2, HV2⟩ : ∃ v, Hid (getN s (a + 2) 1 = v) := ⟨_, rfl⟩
  rw [HV1.out] at f1 HN1 ⊢
  rw [HV2.out] at f2 HN2 ⊢
  have e1 : IntKind.u16.wrap v1 = v1 := by rw [IntKind.wrap_u16]; omega
  have e2 : IntKind.u8.wrap v2 = v2 := by rw [IntKind.wrap_u8]; omega
  have e1' : v1 % 65536 = v1 := by omega
  have e2' : v2 % 256 = v2 := by omega
  have hg := hr.lt
  have hz := zero106
  have r0 := hr.alloc (.cells #[.int .u16 0, .int .u8 0] 106)
  have q0 : Row (w.alloc (.cells #[.int .u16 0, .int .u8 0] 106)) w.heap.size #[.int .u16 0, .int .u8 0] 106 := Row.new _ _ _
  have o0 : Off (· = g) w (w.alloc (.cells #[.int .u16 0, .int .u8 0] 106)) := Off.of_below ((Below.refl _ _).alloc (Nat.le_refl _) _)
  go_enter Try.func99, Try.ntmps99
  go_wp2_with (first
    | (go_at_call 97; refine (HN1.out _ r0).mono ?_; clear HN1; rintro e w1 ⟨rfl, r1, o1⟩)
    | (go_at_call 97; refine (HN2.out _ r1).mono ?_; clear HN2; rintro e w2 ⟨rfl, r2, o2⟩
       have q2 : Row w2 w.heap.size #[.int .u16 0, .int .u8 0] 106 := (q0.off o1 (by omega)).off o2 (by omega))
    | (refine store_cells rfl 106 (.tmp 2) (.tmp 11) rfl w.heap.size #[.int .u16 v1, .int .u8 v2] rfl rfl 106 _ q2 2 size106 rfl rfl (by simp [Value.oneCell']) ?_))
  have o5 : Off (· = g) w (w2.setRow w.heap.size #[.int .u16 v1, .int .u8 v2]) := ((o0.trans o1 (fun j h => Or.inl h)).trans o2 (fun j h => Or.inl h)).trans (Off.of_setRow (F := (· = w.heap.size)) _ _ _ rfl) (fun j h => Or.inr (by omega))
  refine bodyPost_ret (v := .agg #[.int .u16 v1, .int .u8 v2]) ?_ rfl ⟨rfl, r2.other (by omega) _, o5⟩
  exact ret_cell (fn := Try.f99) rfl _ _ w.heap.size 106 #[.int .u16 v1, .int .u8 v2] _ rfl (q2.set _) Try.underlying106 rfl size106
theorem cut_isP (l : List Int) (a n : Nat) : (l.take (min (a + n) l.length)).drop (min a l.length) = (l.drop a).take n := by
  by_cases h : a ≤ l.length
  · rw [Nat.min_eq_left h]
    by_cases h2 : a + n ≤ l.length
    · rw [Nat.min_eq_left h2, List.drop_take]; congr 1; omega
    · rw [Nat.min_eq_right (by omega), List.take_length, List.take_of_length_le (by simp; omega)]
  · rw [Nat.min_eq_right (by omega), Nat.min_eq_right (by omega), List.take_length, List.drop_length, List.drop_of_length_le (by omega), List.take_nil]
set_option maxHeartbeats 1000000 in
theorem bytes_any (g : Nat) (l : List Int) (a n : Nat) (w : World) (hr : Row w g #[.string (strOfNums l), .int .i64 a] 179) (hs : l.length ≤ 1000) (hn : n ≤ 1000) (ha : a ≤ 500000) :
    Calls Try.prog 100 #[.pointer (some ⟨g, 0, none⟩), .int .i64 n] w fun e w' => e = .returned (.string (strOfNums ((l.drop a).take n))) ∧ Row w' g #[.string (strOfNums l), .int .i64 (a + n : Nat)] 179 ∧ Off (· = g) w w' := by
  have HX : Hid ((strOfNums l).extract (min a l.length) (min (a + n) l.length) = strOfNums ((l.drop a).take n)) := by show _ = _; rw [extract_tx, cut_isP]
  have hz : (strOfNums l).size = l.length := strOfNums_size l
  obtain ⟨N, HN⟩ : ∃ N, Hid (l.length = N) := ⟨_, rfl⟩
  rw [HN.out] at HX hz hs
  obtain ⟨f, HF⟩ : ∃ f, Hid (min a N = f) := ⟨_, rfl⟩
  obtain ⟨t, HT⟩ : ∃ f, Hid (min (a + n) N = f) := ⟨_, rfl⟩
  rw [HF.out, HT.out] at HX
  have emin1 : Hid ((if N < a then (N : Int) else (a : Int)) = f) := by show _ = _; rw [← HF.out]; split <;> omega
  have emin2 : Hid ((if (N : Int) < (a : Int) + n then (N : Int) else (a : Int) + n) = t) := by show _ = _; rw [← HT.out]; split <;> omega
  have hft : f ≤ t := by rw [← HF.out, ← HT.out]; omega
  have htN : t ≤ N := by rw [← HT.out]; omega
  obtain ⟨S, HSS⟩ : ∃ S, Hid (strOfNums l = S) := ⟨_, rfl⟩
  rw [HSS.out] at HX hz hr ⊢
  have hr1 : Row w.drew g #[.string S, .int .i64 a] 179 := hr
  have c0 := row_at hr1 0 _ rfl
  have c1 := row_at hr1 1 _ rfl
  have f1 := row_frozen hr1 1
  have ew : IntKind.i64.wrap ((a : Int) + n) = ((a + n : Nat) : Int) := by rw [IntKind.wrap_i64]; omega
  have r2 : Row (w.drew.setCell ⟨g, 1, none⟩ (.int .i64 ((a + n : Nat) : Int))) g #[.string S, .int .i64 ((a + n : Nat) : Int)] 179 := row_set hr1 1 _
  have o2 : Off (· = g) w (w.drew.setCell ⟨g, 1, none⟩ (.int .i64 ((a + n : Nat) : Int))) := (Off.refl _ w).drew.trans (Off.of_setCell (F := (· = g)) _ _ _ rfl) (fun j hj => Or.inl hj)
  go_enter Try.func100, Try.ntmps100
  go_upto_region 1 with fail
  refine wp_region_held_drew (S := fun w' => w' = w.drew) (by kernel_rfl) rfl fun hS => ?_
  refine tkI (i := 0) (v := .pointer (some ⟨g, 0, none⟩)) rfl (Or.inl ⟨by rfl, fun w _ => by go_simp⟩) hS ?_
  try simp only [Act.put, nz]
  refine tkI (i := 1) (v := .pointer (some ⟨g, 0, none⟩)) rfl (Or.inl ⟨by rfl, fun w _ => by go_simp⟩) hS ?_
  try simp only [Act.put, nz]
  refine tkI (i := 2) (v := .pointer (some ⟨g, 1, none⟩)) rfl (Or.inl ⟨by rfl, fun w _ => by go_simp⟩) hS ?_
  try simp only [Act.put, nz]
  refine tkI (i := 3) (v := .int .i64 a) rfl (Or.inl ⟨by rfl, fun w h => by subst h; go_simp⟩) hS ?_
  try simp only [Act.put, nz]
  refine tkI (i := 4) (v := .pointer (some ⟨g, 0, none⟩)) rfl (Or.inl ⟨by rfl, fun w _ => by go_simp⟩) hS ?_
  try simp only [Act.put, nz]
  refine tkI (i := 5) (v := .pointer (some ⟨g, 0, none⟩)) rfl (Or.inl ⟨by rfl, fun w _ => by go_simp⟩) hS ?_
  try simp only [Act.put, nz]
  refine tkI (i := 6) (v := .pointer (some ⟨g, 0, none⟩)) rfl (Or.inl ⟨by rfl, fun w _ => by go_simp⟩) hS ?_
  try simp only [Act.put, nz]
  refine tkI (i := 7) (v := .string S) rfl (Or.inl ⟨by rfl, fun w h => by subst h; go_simp⟩) hS ?_
  try simp only [Act.put, nz]
  refine tkI (i := 8) (v := .int .i64 N) rfl (Or.inl ⟨by rfl, fun w _ => by go_simp⟩) hS ?_
  try simp only [Act.put, nz]
  refine tkI (i := 9) (v := .int .i64 f) rfl (Or.inl ⟨by rfl, fun w _ => by go_simp; exact emin1.out⟩) hS ?_
  try simp only [Act.put, nz]
  refine tkI (i := 10) (v := .int .i64 f) rfl (Or.inl ⟨by rfl, fun w _ => by go_simp⟩) hS ?_
  try simp only [Act.put, nz]
  refine wpAnyH_done (by kernel_rfl) ?_ _
  clear hS
  go_upto_region 3 with fail
  clear c0 c1 f1 hr1 hr
  have r2 : Row (w.setCell ⟨g, 1, none⟩ (.int .i64 ((a : Int) + n))).drew g #[.string S, .int .i64 ((a + n : Nat) : Int)] 179 := r2
  have o2 : Off (· = g) w (w.setCell ⟨g, 1, none⟩ (.int .i64 ((a : Int) + n))).drew := o2
  generalize (w.setCell ⟨g, 1, none⟩ (.int .i64 ((a : Int) + n))).drew = w2 at r2 o2 ⊢
  have r3 : Row w2.drew g #[.string S, .int .i64 ((a + n : Nat) : Int)] 179 := r2
  have o3 : Off (· = g) w w2.drew := o2.drew
  clear r2 o2
  have c0 := row_at r3 0 _ rfl
  have c1 := row_at r3 1 _ rfl
  refine wp_region_held_drew (S := fun w' => w' = w2.drew) (by kernel_rfl) rfl fun hS => ?_
  refine tkI (i := 0) (v := .pointer (some ⟨g, 0, none⟩)) rfl (Or.inl ⟨by rfl, fun w _ => by go_simp⟩) hS ?_
  try simp only [Act.put, nz]
  refine tkI (i := 1) (v := .pointer (some ⟨g, 0, none⟩)) rfl (Or.inl ⟨by rfl, fun w _ => by go_simp⟩) hS ?_
  try simp only [Act.put, nz]
  refine tkI (i := 2) (v := .pointer (some ⟨g, 0, none⟩)) rfl (Or.inl ⟨by rfl, fun w _ => by go_simp⟩) hS ?_
  try simp only [Act.put, nz]
  refine tkI (i := 3) (v := .string S) rfl (Or.inl ⟨by rfl, fun w h => by subst h; go_simp⟩) hS ?_
  try simp only [Act.put, nz]
  refine tkI (i := 4) (v := .int .i64 f) rfl (Or.inl ⟨by rfl, fun w _ => by go_simp⟩) hS ?_
  try simp only [Act.put, nz]
  refine tkI (i := 5) (v := .pointer (some ⟨g, 0, none⟩)) rfl (Or.inl ⟨by rfl, fun w _ => by go_simp⟩) hS ?_
  try simp only [Act.put, nz]
  refine tkI (i := 6) (v := .pointer (some ⟨g, 0, none⟩)) rfl (Or.inl ⟨by rfl, fun w _ => by go_simp⟩) hS ?_
  try simp only [Act.put, nz]
  refine tkI (i := 7) (v := .pointer (some ⟨g, 1, none⟩)) rfl (Or.inl ⟨by rfl, fun w _ => by go_simp⟩) hS ?_
  try simp only [Act.put, nz]
  refine tkI (i := 8) (v := .int .i64 ((a + n : Nat) : Int)) rfl (Or.inl ⟨by rfl, fun w h => by subst h; go_simp⟩) hS ?_
  try simp only [Act.put, nz]
  refine tkI (i := 9) (v := .pointer (some ⟨g, 0, none⟩)) rfl (Or.inl ⟨by rfl, fun w _ => by go_simp⟩) hS ?_
  try simp only [Act.put, nz]
  refine tkI (i := 10) (v := .pointer (some ⟨g, 0, none⟩)) rfl (Or.inl ⟨by rfl, fun w _ => by go_simp⟩) hS ?_
  try simp only [Act.put, nz]
  refine tkI (i := 11) (v := .pointer (some ⟨g, 0, none⟩)) rfl (Or.inl ⟨by rfl, fun w _ => by go_simp⟩) hS ?_
  try simp only [Act.put, nz]
  refine tkI (i := 12) (v := .string S) rfl (Or.inl ⟨by rfl, fun w h => by subst h; go_simp⟩) hS ?_
  try simp only [Act.put, nz]
  refine tkI (i := 13) (v := .int .i64 N) rfl (Or.inl ⟨by rfl, fun w _ => by go_simp⟩) hS ?_
  try simp only [Act.put, nz]
  refine tkI (i := 14) (v := .int .i64 t) rfl (Or.inl ⟨by rfl, fun w _ => by go_simp; exact emin2.out⟩) hS ?_
  try simp only [Act.put, nz]
  refine tkI (i := 15) (v := .string (strOfNums ((l.drop a).take n))) rfl (Or.inl ⟨by rfl, fun w _ => by go_simp; exact HX.out⟩) hS ?_
  try simp only [Act.put, nz]
  refine tkI (i := 16) (v := .string (strOfNums ((l.drop a).take n))) rfl (Or.inl ⟨by rfl, fun w _ => by go_simp⟩) hS ?_
  try simp only [Act.put, nz]
  refine wpAnyH_done (by kernel_rfl) ?_ _
  clear hS
  go_wp2
  go_ret
  exact ⟨rfl, r3, o3⟩
end Go.Proofs.Ytehogiondcpbcaa
