/-
  Proved here: page.oldText, page.PutUndo: the bytes of an undo page's records, and its payload, if there may be such a page. Proved here: page.reader's old: the record that stands at the reader's place.
-/
import Derived.Test.YtehogiondcpbcaaJq21
namespace Go.Proofs.Ytehogiondcpbcaa
open Go.ChangeShapes Go.WideShapes Go.ChangeAt Go.RowKit
set_option linter.unusedVariables false
set_option linter.unusedSimpArgs false
set_option maxRecDepth 20000
structure O.Fits (o : O) : Prop where
  page : 0 ≤ o.page ∧ o.page ≤ 65535
  ts : 0 ≤ o.ts ∧ o.ts ≤ 4294967295
  np : 0 ≤ o.np ∧ o.np ≤ 65535
  ns : 0 ≤ o.ns ∧ o.ns ≤ 255
theorem O.zero_fits : O.zero.Fits := ⟨by decide, by decide, by decide, by decide⟩
def liveT (o : O) : List Int := low 1 1 ++ low o.page 2 ++ low o.ts 4 ++ refT o.np o.ns
def oldT (o : O) : List Int := if o.live then liveT o ++ low o.delta.size 1 ++ nums o.delta else low 0 1
theorem liveT_length (o : O) : (liveT o).length = 10 := by simp [liveT, low_length, refT_length]
theorem oldT_length (o : O) : (oldT o).length = if o.live then 11 + o.delta.size else 1 := by
  unfold oldT
  split
  · simp [liveT_length, low_length, nums_length]; omega
  · simp [low_length]
theorem oldT_bytes (o : O) : Bytes (oldT o) := by
  unfold oldT
  split
  · exact (((((low_bytes _ _).append (low_bytes _ _)).append (low_bytes _ _)).append (refT_bytes _ _)).append (low_bytes _ _)).append (nums_bytes _)
  · exact low_bytes _ _
def oldsT (os : List O) : List Int := os.flatMap oldT
def undoT (os : List O) : List Int := low os.length 1 ++ oldsT os
theorem oldsT_bytes (os : List O) : Bytes (oldsT os) := by
  intro y hy
  obtain ⟨o, _, h⟩ := List.mem_flatMap.1 hy
  exact oldT_bytes o y h
theorem undoT_bytes (os : List O) : Bytes (undoT os) := (low_bytes _ _).append (oldsT_bytes os)
theorem oldsT_snoc (os : List O) (k : Nat) (o : O) (h : os[k]? = some o) : oldsT (os.take (k + 1)) = oldsT (os.take k) ++ oldT o := by
  unfold oldsT
  rw [List.take_add_one, h, List.flatMap_append]; simp
theorem psize_from (os : List O) : ∀ n : Int, os.foldl (fun n o => n + if o.live then 11 + (o.delta.size : Int) else 1) n = n + (oldsT os).length := by
  induction os with
  | nil => intro n; simp [oldsT]
  | cons o r ih =>
    intro n
    rw [List.foldl_cons, ih]
    have : oldsT (o :: r) = oldT o ++ oldsT r := rfl
    rw [this, List.length_append, oldT_length]
    cases hl : o.live <;> simp <;> omega
theorem psize_is (os : List O) : psize os = 15 + (undoT os).length := by
  unfold psize undoT
  rw [psize_from, List.length_append, low_length]; omega
set_option maxHeartbeats 2000000 in
theorem old_text (o : O) (w : World) (ho : o.Fits) (hd : o.delta.size ≤ 1000) :
    Calls Try.prog 73 #[.agg o.arr] w fun e w' => e = .returned (.string (strOfNums (oldT o))) ∧ Below w.heap.size w w' := by
  obtain ⟨l, pg, ts, np, ns, dl⟩ := o
  obtain ⟨h1, h2, h3, h4⟩ := ho
  simp only at h1 h2 h3 h4 hd
  unfold O.arr
  simp only
  have r0 : Row (w.alloc (.cells #[.bool l, .int .u16 pg, .int .u32 ts, .int .u16 np, .int .u8 ns, .string dl] 130)) w.heap.size #[.bool l, .int .u16 pg, .int .u32 ts, .int .u16 np, .int .u8 ns, .string dl] 130 := Row.new _ _ _
  have b0 : Below w.heap.size w (w.alloc (.cells #[.bool l, .int .u16 pg, .int .u32 ts, .int .u16 np, .int .u8 ns, .string dl] 130)) := (Below.refl _ _).alloc (Nat.le_refl _) _
  have c0 := row_at r0 0 _ rfl
  cases l
  · have HT : Hid (oldT ⟨false, pg, ts, np, ns, dl⟩ = low 0 1) := rfl
    rw [HT.out]
    have P1 : Hid _ := put_at 0 1 _ rfl (by omega) (by omega) (by decide)
    generalize low 0 1 = A at P1
    go_enter Try.func73, Try.ntmps73
    go_wp2_with (go_at_call 72; refine (P1.out _).mono ?_; clear P1; rintro e w1 ⟨rfl, h1⟩)
    go_ret
    exact ⟨rfl, b0.trans (h1.mono b0.size)⟩
  · obtain ⟨T, HT⟩ : ∃ T, Hid (oldT ⟨true, pg, ts, np, ns, dl⟩ = T) := ⟨_, rfl⟩
    obtain ⟨L, HL⟩ : ∃ T, Hid (liveT ⟨true, pg, ts, np, ns, dl⟩ = T) := ⟨_, rfl⟩
    have hLl := liveT_length ⟨true, pg, ts, np, ns, dl⟩
    rw [HL.out] at hLl
    rw [HT.out]
    obtain ⟨A1, HA1⟩ : ∃ A, Hid (low 1 1 = A) := ⟨_, rfl⟩
    obtain ⟨A2, HA2⟩ : ∃ A, Hid (low pg 2 = A) := ⟨_, rfl⟩
    obtain ⟨A3, HA3⟩ : ∃ A, Hid (low ts 4 = A) := ⟨_, rfl⟩
    obtain ⟨A4, HA4⟩ : ∃ A, Hid (refT np ns = A) := ⟨_, rfl⟩
    obtain ⟨A5, HA5⟩ : ∃ A, Hid (low dl.size 1 = A) := ⟨_, rfl⟩
    obtain ⟨B2, HB2⟩ : ∃ A, Hid (A1 ++ A2 = A) := ⟨_, rfl⟩
    obtain ⟨B3, HB3⟩ : ∃ A, Hid (B2 ++ A3 = A) := ⟨_, rfl⟩
    obtain ⟨B5, HB5⟩ : ∃ A, Hid (L ++ A5 = A) := ⟨_, rfl⟩
    have P1 : Hid _ := put_at 1 1 A1 HA1.out (by omega) (by omega) (by decide)
    have P2 : Hid _ := put_at pg 2 A2 HA2.out (by omega) (by omega) (by decide)
    have P3 : Hid _ := put_at ts 4 A3 HA3.out (by omega) (by omega) (by decide)
    have P4 : Hid _ := fun w => ref_any np ns w h3 h4
    have P5 : Hid _ := put_at dl.size 1 A5 HA5.out (by omega) (by omega) (by decide)
    rw [HA4.out] at P4
    have e1 : IntKind.u64.wrap pg = pg := by rw [IntKind.wrap_u64]; omega
    have e2 : IntKind.u64.wrap ts = ts := by rw [IntKind.wrap_u64]; omega
    have e3 : IntKind.u64.wrap (dl.size : Int) = dl.size := by rw [IntKind.wrap_u64]; omega
    have z1 : (strOfNums A1).size = 1 := by rw [strOfNums_size, ← HA1.out, low_length]
    have z2 : (strOfNums A2).size = 2 := by rw [strOfNums_size, ← HA2.out, low_length]
    have z3 : (strOfNums A3).size = 4 := by rw [strOfNums_size, ← HA3.out, low_length]
    have z4 : (strOfNums A4).size = 3 := by rw [strOfNums_size, ← HA4.out, refT_length]
    have z5 : (strOfNums A5).size = 1 := by rw [strOfNums_size, ← HA5.out, low_length]
    have t1 : strOfNums A1 ++ strOfNums A2 = strOfNums B2 := by rw [tx_app, HB2.out]
    have t2 : strOfNums B2 ++ strOfNums A3 = strOfNums B3 := by rw [tx_app, HB3.out]
    have t3 : strOfNums B3 ++ strOfNums A4 = strOfNums L := by rw [tx_app, ← HB3.out, ← HB2.out, ← HA1.out, ← HA2.out, ← HA3.out, ← HA4.out, ← HL.out]; rfl
    have t4 : strOfNums L ++ strOfNums A5 = strOfNums B5 := by rw [tx_app, HB5.out]
    have t5 : strOfNums B5 ++ dl = strOfNums T := by
      conv => lhs; rw [← tx_nums dl]
      rw [tx_app, ← HB5.out, ← HL.out, ← HA5.out, ← HT.out]; rfl
    have z6 : (strOfNums B2).size = 3 := by rw [← t1, ByteArray.size_append, z1, z2]
    have z7 : (strOfNums B3).size = 7 := by rw [← t2, ByteArray.size_append, z6, z3]
    have z8 : (strOfNums L).size = 10 := by rw [strOfNums_size, hLl]
    have z9 : (strOfNums B5).size = 11 := by rw [← t4, ByteArray.size_append, z8, z5]
    go_enter Try.func73, Try.ntmps73
    go_upto_region 3 with fail
    clear c0
    generalize w.alloc (.cells #[.bool true, .int .u16 pg, .int .u32 ts, .int .u16 np, .int .u8 ns, .string dl] 130) = w1 at r0 b0 ⊢
    refine wp_region_held_drew (S := fun w' => Row w' w.heap.size #[.bool true, .int .u16 pg, .int .u32 ts, .int .u16 np, .int .u8 ns, .string dl] 130 ∧ Below w.heap.size w w') (by kernel_rfl) ⟨r0, b0.drew⟩ fun hS => ?_
    clear r0 b0
    refine tkI (i := 1) (v := .pointer (some ⟨w.heap.size, 1, none⟩)) rfl (Or.inl ⟨by rfl, fun w _ => by go_simp⟩) hS ?_
    try simp only [Act.put, nz]
    refine tkI (i := 2) (v := .int .u16 pg) rfl (Or.inl ⟨by rfl, fun w h => by have c1 := row_at h.1 1 _ rfl; go_simp⟩) hS ?_
    try simp only [Act.put, nz]
    refine tkI (i := 3) (v := .int .u64 pg) rfl (Or.inl ⟨by rfl, fun w _ => by go_simp⟩) hS ?_
    try simp only [Act.put, nz]
    refine tkI (i := 6) (v := .pointer (some ⟨w.heap.size, 2, none⟩)) rfl (Or.inl ⟨by rfl, fun w _ => by go_simp⟩) hS ?_
    try simp only [Act.put, nz]
    refine tkI (i := 7) (v := .int .u32 ts) rfl (Or.inl ⟨by rfl, fun w h => by have c2 := row_at h.1 2 _ rfl; go_simp⟩) hS ?_
    try simp only [Act.put, nz]
    refine tkI (i := 8) (v := .int .u64 ts) rfl (Or.inl ⟨by rfl, fun w _ => by go_simp⟩) hS ?_
    try simp only [Act.put, nz]
    refine tkI (i := 11) (v := .pointer (some ⟨w.heap.size, 3, none⟩)) rfl (Or.inl ⟨by rfl, fun w _ => by go_simp⟩) hS ?_
    try simp only [Act.put, nz]
    refine tkI (i := 12) (v := .agg #[.int .u16 np, .int .u8 ns]) rfl (Or.inl ⟨by rfl, fun w h => by have c3 := row_at h.1 3 _ rfl; have c4 := row_at h.1 4 _ rfl; go_simp⟩) hS ?_
    try simp only [Act.put, nz]
    refine wpAnyH_ready (rs := [0]) (by kernel_rfl) (by simp) ?_
    refine AllReadyH.cons rfl (fun K hK => ?_) AllReadyH.nil
    go_simp
    go_at_call 72
    refine (P1.out _).mono ?_
    rintro e wc ⟨rfl, hcb⟩
    refine hK.out _ _ (⟨hS.1.below hcb hS.1.lt, hS.2.trans (hcb.mono hS.2.size)⟩) fun hS => ?_
    try simp only [Act.put, nz]
    refine wpAnyH_ready (rs := [4]) (by kernel_rfl) (by simp) ?_
    refine AllReadyH.cons rfl (fun K hK => ?_) AllReadyH.nil
    go_simp
    go_at_call 72
    refine (P2.out _).mono ?_
    rintro e wc ⟨rfl, hcb⟩
    refine hK.out _ _ (⟨hS.1.below hcb hS.1.lt, hS.2.trans (hcb.mono hS.2.size)⟩) fun hS => ?_
    try simp only [Act.put, nz]
    refine tkI (i := 5) (v := .string (strOfNums B2)) rfl (Or.inl ⟨by rfl, fun w _ => by go_simp⟩) hS ?_
    try simp only [Act.put, nz]
    refine wpAnyH_ready (rs := [9]) (by kernel_rfl) (by simp) ?_
    refine AllReadyH.cons rfl (fun K hK => ?_) AllReadyH.nil
    go_simp
    go_at_call 72
    refine (P3.out _).mono ?_
    rintro e wc ⟨rfl, hcb⟩
    refine hK.out _ _ (⟨hS.1.below hcb hS.1.lt, hS.2.trans (hcb.mono hS.2.size)⟩) fun hS => ?_
    try simp only [Act.put, nz]
    refine tkI (i := 10) (v := .string (strOfNums B3)) rfl (Or.inl ⟨by rfl, fun w _ => by go_simp⟩) hS ?_
    try simp only [Act.put, nz]
    refine wpAnyH_ready (rs := [13]) (by kernel_rfl) (by simp) ?_
    refine AllReadyH.cons rfl (fun K hK => ?_) AllReadyH.nil
    go_simp
    go_at_call 75
    refine (P4.out _).mono ?_
    rintro e wc ⟨rfl, hcb⟩
    refine hK.out _ _ (⟨hS.1.below hcb hS.1.lt, hS.2.trans (hcb.mono hS.2.size)⟩) fun hS => ?_
    try simp only [Act.put, nz]
    refine tkI (i := 14) (v := .string (strOfNums L)) rfl (Or.inl ⟨by rfl, fun w _ => by go_simp⟩) hS ?_
    try simp only [Act.put, nz]
    refine tkI (i := 15) (v := .string (strOfNums L)) rfl (Or.inl ⟨by rfl, fun w _ => by go_simp⟩) hS ?_
    try simp only [Act.put, nz]
    refine wpAnyH_done (by kernel_rfl) ?_ _
    clear hcb
    go_upto_region 4 with fail
    refine wp_region_held_drew (S := fun w' => Row w' w.heap.size #[.bool true, .int .u16 pg, .int .u32 ts, .int .u16 np, .int .u8 ns, .string dl] 130 ∧ Below w.heap.size w w') (by kernel_rfl) ⟨hS.1, hS.2.drew⟩ fun hS => ?_
    refine tkI (i := 0) (v := .string (strOfNums L)) rfl (Or.inl ⟨by rfl, fun w _ => by go_simp⟩) hS ?_
    try simp only [Act.put, nz]
    refine tkI (i := 1) (v := .pointer (some ⟨w.heap.size, 5, none⟩)) rfl (Or.inl ⟨by rfl, fun w _ => by go_simp⟩) hS ?_
    try simp only [Act.put, nz]
    refine tkI (i := 2) (v := .string dl) rfl (Or.inl ⟨by rfl, fun w h => by have c5 := row_at h.1 5 _ rfl; go_simp⟩) hS ?_
    try simp only [Act.put, nz]
    refine tkI (i := 3) (v := .int .i64 dl.size) rfl (Or.inl ⟨by rfl, fun w _ => by go_simp⟩) hS ?_
    try simp only [Act.put, nz]
    refine tkI (i := 4) (v := .int .u64 dl.size) rfl (Or.inl ⟨by rfl, fun w _ => by go_simp⟩) hS ?_
    try simp only [Act.put, nz]
    refine tkI (i := 7) (v := .pointer (some ⟨w.heap.size, 5, none⟩)) rfl (Or.inl ⟨by rfl, fun w _ => by go_simp⟩) hS ?_
    try simp only [Act.put, nz]
    refine tkI (i := 8) (v := .string dl) rfl (Or.inl ⟨by rfl, fun w h => by have c5 := row_at h.1 5 _ rfl; go_simp⟩) hS ?_
    try simp only [Act.put, nz]
    refine wpAnyH_ready (rs := [5]) (by kernel_rfl) (by simp) ?_
    refine AllReadyH.cons rfl (fun K hK => ?_) AllReadyH.nil
    go_simp
    go_at_call 72
    refine (P5.out _).mono ?_
    rintro e wc ⟨rfl, hcb⟩
    refine hK.out _ _ (⟨hS.1.below hcb hS.1.lt, hS.2.trans (hcb.mono hS.2.size)⟩) fun hS => ?_
    try simp only [Act.put, nz]
    refine tkI (i := 6) (v := .string (strOfNums B5)) rfl (Or.inl ⟨by rfl, fun w _ => by go_simp⟩) hS ?_
    try simp only [Act.put, nz]
    refine tkI (i := 9) (v := .string (strOfNums T)) rfl (Or.inl ⟨by rfl, fun w _ => by go_simp; omega⟩) hS ?_
    try simp only [Act.put, nz]
    refine tkI (i := 10) (v := .string (strOfNums T)) rfl (Or.inl ⟨by rfl, fun w _ => by go_simp⟩) hS ?_
    try simp only [Act.put, nz]
    refine wpAnyH_done (by kernel_rfl) ?_ _
    go_wp2
    go_ret
    exact ⟨rfl, hS.2⟩
def putU (no lsn : Int) (os : List O) : List Int := if may os then payT 2 no lsn (undoT os) else zs 224
def errU (os : List O) : Int := if may os then 0 else 1
theorem undoT_le (os : List O) (h : may os = true) : (undoT os).length ≤ 209 := by
  have := (may_small h).2.2.2
  rw [psize_is] at this; omega
theorem putU_length (no lsn : Int) (os : List O) : (putU no lsn os).length = 224 := by
  unfold putU
  split
  · rename_i h; exact payT_length _ _ _ _ (undoT_le os h)
  · exact zs_length _
theorem putU_bytes (no lsn : Int) (os : List O) : Bytes (putU no lsn os) := by
  unfold putU
  split
  · exact payT_bytes _ _ _ _ (undoT_bytes os)
  · exact zs_bytes _
theorem oldsT_le (os : List O) (h : may os = true) (k : Nat) : (oldsT (os.take k)).length ≤ 209 := by
  have h1 := undoT_le os h
  unfold undoT at h1
  rw [List.length_append] at h1
  have e : oldsT os = oldsT (os.take k) ++ oldsT (os.drop k) := by unfold oldsT; rw [← List.flatMap_append, List.take_append_drop]
  rw [e, List.length_append] at h1
  omega
set_option maxHeartbeats 2000000 in
theorem putUndo_any (no lsn : Int) (v : Value) (os : List O) (w : World) (ho : Olds w v os) (hf : ∀ o ∈ os, o.Fits) (hno : 0 ≤ no ∧ no ≤ 65535) (hlsn : 0 ≤ lsn ∧ lsn ≤ 18446744073709551615) :
    Calls Try.prog 43 #[.int .u16 no, .agg #[.int .u64 lsn, v]] w fun e w' => e = .returned (.tuple #[.agg (bs (putU no lsn os)), .int .i64 (errU os)]) ∧ Below w.heap.size w w' := by
  have hz := zero34
  have hmay := fun (wa : World) (hb : Below w.heap.size w wa) => may_any lsn v os wa (ho.keep hb)
  obtain ⟨oa, cap, rfl, hcs⟩ := ho.hold
  have HCS : Hid _ := hcs
  have HMAY : Hid _ := hmay
  clear hcs ho hmay
  obtain ⟨n, HN⟩ : ∃ n, Hid (os.length = n) := ⟨_, rfl⟩
  rw [HN.out] at HCS HMAY ⊢
  have r0 : Row ((w.alloc (.cells #[.int .u64 lsn, .slice oa n cap] 103)).alloc (.cells (bs (zs 224)) 34)) w.heap.size #[.int .u64 lsn, .slice oa n cap] 103 := (Row.new _ _ _).alloc _
  have r1 : Row ((w.alloc (.cells #[.int .u64 lsn, .slice oa n cap] 103)).alloc (.cells (bs (zs 224)) 34)) (w.heap.size + 1) (bs (zs 224)) 34 := by have := Row.new (w.alloc (.cells #[.int .u64 lsn, .slice oa n cap] 103)) (bs (zs 224)) 34; simpa using this
  have ab : Below w.heap.size w ((w.alloc (.cells #[.int .u64 lsn, .slice oa n cap] 103)).alloc (.cells (bs (zs 224)) 34)) := ((Below.refl _ _).alloc (Nat.le_refl _) _).alloc (by simp) _
  obtain ⟨m, HM⟩ : ∃ m, Hid (may os = m) := ⟨_, rfl⟩
  rw [HM.out] at HMAY
  go_enter Try.func43, Try.ntmps43
  go_upto_region 1 with fail
  generalize (w.alloc (.cells #[.int .u64 lsn, .slice oa n cap] 103)).alloc (.cells (bs (zs 224)) 34) = w1 at r0 r1 ab ⊢
  cases m
  · have HU : Hid (putU no lsn os = zs 224) := by show _ = _; unfold putU; rw [HM.out]; rfl
    have HE : Hid (errU os = 1) := by show _ = _; unfold errU; rw [HM.out]; rfl
    go_wp2_with (first
      | (refine load_cells rfl 103 (.tmp 3) rfl w.heap.size rfl 103 #[.int .u64 lsn, .slice oa n cap] r0 2 Try.underlying103 rfl size103 rfl ?_)
      | (go_at_call 71; refine (HMAY.out _ ab).mono ?_; clear HMAY; rintro e w2 ⟨rfl, h2⟩)
      | (refine build_none rfl 34 rfl _ built34 ?_)
      | (refine store_row rfl 34 (.tmp 4) (.tmp 12) rfl (w.heap.size + 1) (zs 224) rfl rfl 34 _ (r1.below h2 r1.lt) 224 size34 (by rw [bs_size, zs_length]) (zs_length _) ?_))
    refine bodyPost_ret (v := .tuple #[.agg (bs (zs 224)), .int .i64 1]) ?_ rfl ⟨by rw [HU.out, HE.out], below_setRow (ab.trans (h2.mono ab.size)) (by omega) _⟩
    exact ret_cell2 (fn := Try.f43) rfl _ _ (w.heap.size + 1) 34 (bs (zs 224)) _ _ rfl rfl ((r1.below h2 r1.lt).set _) Try.underlying34 rfl (by rw [bs_size, zs_length]; exact size34)
  · have HU : Hid (putU no lsn os = payT 2 no lsn (undoT os)) := by show _ = _; unfold putU; rw [HM.out]; rfl
    have HE : Hid (errU os = 0) := by show _ = _; unfold errU; rw [HM.out]; rfl
    have hms := may_small HM.out
    have hn15 : n ≤ 15 := by rw [← HN.out]; exact hms.1
    have hok := hms.2.2.1
    have HOK : Hid (∀ o ∈ os, o.delta.size ≤ 66) := by
      show ∀ o ∈ os, o.delta.size ≤ 66
      intro o ho; have := hok o ho; unfold okO at this; simp at this; exact this.2
    have HLE : Hid _ := fun k => oldsT_le os HM.out k
    have hul := undoT_le os HM.out
    have HPAY : Hid _ := fun w => payload_any 2 no lsn (undoT os) w (by decide) hno hlsn hul (undoT_bytes os)
    have hRl := payT_length 2 no lsn (undoT os) hul
    obtain ⟨R, HR⟩ : ∃ R, Hid (payT 2 no lsn (undoT os) = R) := ⟨_, rfl⟩
    rw [HR.out] at HPAY hRl HU
    have P1 : Hid _ := put_at n 1 _ rfl (by omega) (by omega) (by decide)
    obtain ⟨A, HA⟩ : ∃ R, Hid (low n 1 = R) := ⟨_, rfl⟩
    rw [HA.out] at P1
    have hzA : (strOfNums A).size = 1 := by rw [strOfNums_size, ← HA.out, low_length]
    have e0 : IntKind.u64.wrap (n : Int) = n := by rw [IntKind.wrap_u64]; omega
    clear hms hok hul
    go_upto_region 3 with (first
      | (refine load_cells rfl 103 (.tmp 3) rfl w.heap.size rfl 103 #[.int .u64 lsn, .slice oa n cap] r0 2 Try.underlying103 rfl size103 rfl ?_)
      | (go_at_call 71; refine (HMAY.out _ ab).mono ?_; clear HMAY; rintro e w2 ⟨rfl, h2⟩))
    have a0 := r0.below h2 r0.lt
    have a1 := r1.below h2 r1.lt
    have abb : Below w.heap.size w w2 := ab.trans (h2.mono ab.size)
    clear r0 r1 ab h2
    have c1 := row_at a0 1 _ rfl
    go_upto_region 4 with (go_at_call 72; refine (P1.out _).mono ?_; clear P1; rintro e w3 ⟨rfl, h3⟩)
    have b0 := a0.below h3 a0.lt
    have b1 := a1.below h3 a1.lt
    have bb : Below w.heap.size w w3 := abb.trans (h3.mono abb.size)
    clear a0 a1 abb h3 c1
    have c1 := row_at b0 1 _ rfl
    have hzo := zero130
    have HT0 : Hid (strOfNums (A ++ oldsT (os.take 0)) = strOfNums A) := by show _ = _; simp [oldsT]
    go_wp2
    go_loopw [6, 21] (fun t i wr => ∃ k : Nat, k ≤ n ∧ i = .int .i64 k ∧ t = .string (strOfNums (A ++ oldsT (os.take k))) ∧ Row wr w.heap.size #[.int .u64 lsn, .slice oa n cap] 103 ∧ Row wr (w.heap.size + 1) (bs (zs 224)) 34 ∧ Below w.heap.size w wr) (fun _ i _ => n - (intOf i).toNat)
    case atStart => exact ⟨0, by omega, rfl, by rw [HT0.out], b0, b1, bb⟩
    case round =>
      clear b0 b1 bb c1
      obtain ⟨k, hk, rfl, rfl, b0, b1, bb⟩ := hrel
      have hle := HLE.out k
      by_cases hkn : k < n
      · obtain ⟨a, l, p, t, np, ns, dl, rfl, he, hcell⟩ := HCS.out k hkn
        have hcw : ∀ j u, [Value.bool l, .int .u16 p, .int .u32 t, .int .u16 np, .int .u8 ns, .string dl][j]? = some u → wr.cell? ((a.add (k * 6)).add j) = some u := fun j u hj => cell_keep (hcell j u hj) bb
        have hmem : (⟨l, p, t, np, ns, dl⟩ : O) ∈ os := List.mem_of_getElem? he
        have hdz : dl.size ≤ 66 := HOK.out _ hmem
        have HO : Hid _ := fun w => old_text ⟨l, p, t, np, ns, dl⟩ w (hf _ hmem) (by simp only; omega)
        have HS := show Hid _ from oldsT_snoc os k _ he
        have hol := oldT_length ⟨l, p, t, np, ns, dl⟩
        obtain ⟨X, HX⟩ : ∃ X, Hid (oldT ⟨l, p, t, np, ns, dl⟩ = X) := ⟨_, rfl⟩
        rw [HX.out] at HO HS hol
        obtain ⟨Y, HY⟩ : ∃ X, Hid (A ++ oldsT (os.take k) = X) := ⟨_, rfl⟩
        have HZ : Hid (strOfNums Y ++ strOfNums X = strOfNums (A ++ oldsT (os.take (k + 1)))) := by show _ = _; rw [HS.out, ← List.append_assoc, HY.out, tx_app]
        have hzY : (strOfNums Y).size ≤ 210 := by rw [strOfNums_size, ← HY.out, List.length_append, ← HA.out, low_length]; omega
        have hzX : (strOfNums X).size ≤ 100 := by rw [strOfNums_size, hol]; split <;> simp <;> omega
        rw [HY.out]
        have hcl := hcell
        clear he hcell hcl hmem hol HS
        have tl : Hid (1 = 1) := rfl
        have t2 : Hid (1 = 1) := rfl
        have hkn' : (k : Int) < (n : Int) := by omega
        have q1 : Row (wr.alloc (.cells #[.bool false, .int .u16 0, .int .u32 0, .int .u16 0, .int .u8 0, .string ByteArray.empty] 130)) wr.heap.size #[.bool false, .int .u16 0, .int .u32 0, .int .u16 0, .int .u8 0, .string ByteArray.empty] 130 := Row.new _ _ _
        go_upto_region 7 with (first
          | (have hh := tl; clear hh tl; refine wpList_load_any rfl 130 (.tmp 23) rfl (a.add (k * 6)) rfl [.bool l, .int .u16 p, .int .u32 t, .int .u16 np, .int .u8 ns, .string dl] _ hcw Try.underlying130 rfl size130 ?_)
          | (refine store_cells rfl 130 (.tmp 8) (.tmp 24) rfl wr.heap.size #[.bool l, .int .u16 p, .int .u32 t, .int .u16 np, .int .u8 ns, .string dl] rfl rfl 130 _ q1 6 size130 rfl rfl (by simp [Value.oneCell']) ?_))
        have q2 := q1.set #[.bool l, .int .u16 p, .int .u32 t, .int .u16 np, .int .u8 ns, .string dl]
        have hlt := b0.lt
        have hlt1 := b1.lt
        have d0 := (b0.alloc (.cells #[.bool false, .int .u16 0, .int .u32 0, .int .u16 0, .int .u8 0, .string ByteArray.empty] 130)).other (g := wr.heap.size) (by omega) #[.bool l, .int .u16 p, .int .u32 t, .int .u16 np, .int .u8 ns, .string dl]
        have d1 := (b1.alloc (.cells #[.bool false, .int .u16 0, .int .u32 0, .int .u16 0, .int .u8 0, .string ByteArray.empty] 130)).other (g := wr.heap.size) (by omega) #[.bool l, .int .u16 p, .int .u32 t, .int .u16 np, .int .u8 ns, .string dl]
        have db := below_setRow (bb.alloc bb.size (.cells #[.bool false, .int .u16 0, .int .u32 0, .int .u16 0, .int .u8 0, .string ByteArray.empty] 130)) bb.size #[.bool l, .int .u16 p, .int .u32 t, .int .u16 np, .int .u8 ns, .string dl]
        clear b0 b1 bb q1 hcw
        generalize (wr.alloc (.cells #[.bool false, .int .u16 0, .int .u32 0, .int .u16 0, .int .u8 0, .string ByteArray.empty] 130)).setRow wr.heap.size #[.bool l, .int .u16 p, .int .u32 t, .int .u16 np, .int .u8 ns, .string dl] = w5 at q2 d0 d1 db ⊢
        go_wp2_with (first
          | (refine load_cells rfl 130 (.tmp 8) rfl wr.heap.size rfl 130 #[.bool l, .int .u16 p, .int .u32 t, .int .u16 np, .int .u8 ns, .string dl] q2 6 Try.underlying130 rfl size130 rfl ?_)
          | (go_at_call 73; refine (HO.out _).mono ?_; clear HO; rintro e w6 ⟨rfl, h6⟩))
        go_roundw
        case rel => exact ⟨k + 1, by omega, by go_num, by rw [HZ.out], d0.below h6 d0.lt, d1.below h6 d1.lt, db.trans (h6.mono db.size)⟩
        case measure => simp [intOf]; omega
      · obtain rfl : k = n := by omega
        have ht : os.take k = os := by rw [← HN.out, List.take_length]
        have HT : Hid (A ++ oldsT (os.take k) = undoT os) := by show _ = _; rw [ht, ← HA.out, ← HN.out]; rfl
        rw [HT.out]
        clear ht hle
        have hkn' : ¬ (k : Int) < (k : Int) := by omega
        have c0 := row_at b0 0 _ rfl
        go_wp2_with (first
          | (go_at_call 74; refine (HPAY.out _).mono ?_; clear HPAY; rintro e w6 ⟨rfl, h6⟩)
          | (refine store_row rfl 34 (.tmp 4) (.tmp 34) rfl (w.heap.size + 1) R rfl rfl 34 _ (b1.below h6 b1.lt) 224 size34 (by rw [bs_size, zs_length]) hRl ?_))
        refine bodyPost_ret (v := .tuple #[.agg (bs R), .int .i64 0]) ?_ rfl ⟨by rw [HU.out, HE.out], below_setRow (bb.trans (h6.mono bb.size)) (by omega) _⟩
        exact ret_cell2 (fn := Try.f43) rfl _ _ (w.heap.size + 1) 34 (bs R) _ _ rfl rfl ((b1.below h6 b1.lt).set _) Try.underlying34 rfl (by rw [bs_size, hRl]; exact size34)
def oAt (l : List Int) (a : Nat) : O :=
  if getN (strOfNums l) a 1 = 0 then O.zero else
    ⟨true, getN (strOfNums l) (a + 1) 2, getN (strOfNums l) (a + 3) 4, getN (strOfNums l) (a + 7) 2, getN (strOfNums l) (a + 9) 1, strOfNums ((l.drop (a + 11)).take (getN (strOfNums l) (a + 10) 1).toNat)⟩
def oNext (l : List Int) (a : Nat) : Nat := if getN (strOfNums l) a 1 = 0 then a + 1 else a + 11 + (getN (strOfNums l) (a + 10) 1).toNat
theorem oAt_fits (l : List Int) (a : Nat) : (oAt l a).Fits := by
  unfold oAt
  split
  · exact O.zero_fits
  · have f1 := getN_fits (strOfNums l) (a + 1) 2
    have f2 := getN_fits (strOfNums l) (a + 3) 4
    have f3 := getN_fits (strOfNums l) (a + 7) 2
    have f4 := getN_fits (strOfNums l) (a + 9) 1
    exact ⟨⟨f1.1, by have := f1.2; simp only; omega⟩, ⟨f2.1, by have := f2.2; simp only; omega⟩, ⟨f3.1, by have := f3.2; simp only; omega⟩, ⟨f4.1, by have := f4.2; simp only; omega⟩⟩
theorem oNext_le (l : List Int) (a : Nat) : a < oNext l a ∧ oNext l a ≤ a + 266 := by
  have f := getN_fits (strOfNums l) (a + 10) 1
  unfold oNext
  split <;> omega
theorem built81one : (Try.prog.built 130 [(0, .bool true)]) = some #[.bool true, .int .u16 0, .int .u32 0, .int .u16 0, .int .u8 0, .string ByteArray.empty] := by kernel_rfl
set_option maxHeartbeats 1000000 in
theorem old_any (g : Nat) (l : List Int) (a : Nat) (w : World) (hr : Row w g #[.string (strOfNums l), .int .i64 a] 179) (hs : l.length ≤ 1000) (ha : a ≤ 400000) :
    Calls Try.prog 98 #[.pointer (some ⟨g, 0, none⟩)] w fun e w' => e = .returned (.agg (oAt l a).arr) ∧ Row w' g #[.string (strOfNums l), .int .i64 (oNext l a)] 179 ∧ Off (· = g) w w' := by
  have hsz : (strOfNums l).size ≤ maxLen := by rw [strOfNums_size]; unfold maxLen; omega
  have hz := zero130
  have hlt := hr.lt
  have r0 := hr.alloc (.cells #[.bool false, .int .u16 0, .int .u32 0, .int .u16 0, .int .u8 0, .string ByteArray.empty] 130)
  have q0 : Row (w.alloc (.cells #[.bool false, .int .u16 0, .int .u32 0, .int .u16 0, .int .u8 0, .string ByteArray.empty] 130)) w.heap.size #[.bool false, .int .u16 0, .int .u32 0, .int .u16 0, .int .u8 0, .string ByteArray.empty] 130 := Row.new _ _ _
  have o0 : Off (· = g) w (w.alloc (.cells #[.bool false, .int .u16 0, .int .u32 0, .int .u16 0, .int .u8 0, .string ByteArray.empty] 130)) := Off.of_below ((Below.refl _ _).alloc (Nat.le_refl _) _)
  have f0 := getN_fits (strOfNums l) a 1
  have f1 := getN_fits (strOfNums l) (a + 1) 2
  have f2 := getN_fits (strOfNums l) (a + 3) 4
  have f5 := getN_fits (strOfNums l) (a + 10) 1
  have HN1 : Hid _ := fun w h => number_any g (strOfNums l) a 1 w h hsz (by decide) (by omega)
  have HN2 : Hid _ := fun w h => number_any g (strOfNums l) (a + 1) 2 w h hsz (by decide) (by omega)
  have HN3 : Hid _ := fun w h => number_any g (strOfNums l) (a + 3) 4 w h hsz (by decide) (by omega)
  have HRF : Hid _ := fun w h => rref_any g (strOfNums l) (a + 7) w h hsz (by omega)
  have HN5 : Hid _ := fun w h => number_any g (strOfNums l) (a + 10) 1 w h hsz (by decide) (by omega)
  have HBY : Hid _ := fun w h => bytes_any g l (a + 11) (getN (strOfNums l) (a + 10) 1).toNat w h hs (by omega) (by omega)
  by_cases hv : getN (strOfNums l) a 1 = 0
  · have HO : Hid (oAt l a = O.zero) := by show _ = _; unfold oAt; rw [if_pos hv]
    have HX : Hid (oNext l a = a + 1) := by show _ = _; unfold oNext; rw [if_pos hv]
    rw [hv] at HN1
    generalize strOfNums l = S at *
    go_enter Try.func98, Try.ntmps98
    go_wp2_with (first
      | (go_at_call 97; refine (HN1.out _ r0).mono ?_; clear HN1; rintro e w1 ⟨rfl, r1, o1⟩
         have q1 := q0.off o1 (by omega))
      | (refine build_none rfl 130 rfl _ built130 ?_)
      | (refine store_cells rfl 130 (.tmp 2) (.tmp 7) rfl w.heap.size #[.bool false, .int .u16 0, .int .u32 0, .int .u16 0, .int .u8 0, .string ByteArray.empty] rfl rfl 130 _ q1 6 size130 rfl rfl (by simp [Value.oneCell']) ?_))
    refine bodyPost_ret (v := .agg #[.bool false, .int .u16 0, .int .u32 0, .int .u16 0, .int .u8 0, .string ByteArray.empty]) ?_ rfl ⟨by rw [HO.out]; rfl, by rw [HX.out]; exact r1.other (by omega) _, (o0.trans o1 (fun j h => Or.inl h)).trans (Off.of_setRow (F := (· = w.heap.size)) _ _ _ rfl) (fun j h => Or.inr (by omega))⟩
    exact ret_cell (fn := Try.f98) rfl _ _ w.heap.size 130 _ _ rfl (q1.set _) Try.underlying130 rfl size130
  · have HO : Hid ((oAt l a).arr = #[.bool true, .int .u16 (getN (strOfNums l) (a + 1) 2), .int .u32 (getN (strOfNums l) (a + 3) 4), .int .u16 (getN (strOfNums l) (a + 7) 2), .int .u8 (getN (strOfNums l) (a + 9) 1), .string (strOfNums ((l.drop (a + 11)).take (getN (strOfNums l) (a + 10) 1).toNat))]) := by show _ = _; unfold oAt; rw [if_neg hv]; rfl
    have HX : Hid (oNext l a = a + 11 + (getN (strOfNums l) (a + 10) 1).toNat) := by show _ = _; unfold oNext; rw [if_neg hv]
    have hnat : ((getN (strOfNums l) (a + 10) 1).toNat : Int) = getN (strOfNums l) (a + 10) 1 := by omega
    have hn5 : (getN (strOfNums l) (a + 10) 1).toNat ≤ 255 := by omega
    obtain ⟨B, HB⟩ : ∃ B, Hid (strOfNums ((l.drop (a + 11)).take (getN (strOfNums l) (a + 10) 1).toNat) = B) := ⟨_, rfl⟩
    obtain ⟨n5, HN⟩ : ∃ B, Hid ((getN (strOfNums l) (a + 10) 1).toNat = B) := ⟨_, rfl⟩
    rw [HB.out] at HO HBY
    rw [HN.out] at HBY HX hnat hn5
    obtain ⟨v0, HV0⟩ : ∃ B, Hid (getN (strOfNums l) a 1 = B) := ⟨_, rfl⟩
    obtain ⟨v1, HV1⟩ : ∃ B, Hid (getN (strOfNums l) (a + 1) 2 = B) := ⟨_, rfl⟩
    obtain ⟨v2, HV2⟩ : ∃ B, Hid (getN (strOfNums l) (a + 3) 4 = B) := ⟨_, rfl⟩
    obtain ⟨v3, HV3⟩ : ∃ B, Hid (getN (strOfNums l) (a + 7) 2 = B) := ⟨_, rfl⟩
    obtain ⟨v4, HV4⟩ : ∃ B, Hid (getN (strOfNums l) (a + 9) 1 = B) := ⟨_, rfl⟩
    rw [HV0.out] at HN1 hv f0
    rw [HV1.out] at HN2 HO f1
    rw [HV2.out] at HN3 HO f2
    rw [show a + 7 + 2 = a + 9 by omega, HV3.out, HV4.out] at HRF
    rw [HV3.out, HV4.out] at HO
    rw [← hnat] at HN5
    have e1 : IntKind.u16.wrap v1 = v1 := by rw [IntKind.wrap_u16]; omega
    have e2 : IntKind.u32.wrap v2 = v2 := by rw [IntKind.wrap_u32]; omega
    have e1' : v1 % 65536 = v1 := by omega
    have e2' : v2 % 4294967296 = v2 := by omega
    have e5 : IntKind.i64.wrap (n5 : Int) = n5 := by rw [IntKind.wrap_i64]; omega
    have hv' : (v0 == 0) = false := by simp [hv]
    obtain ⟨S, HS⟩ : ∃ S, Hid (strOfNums l = S) := ⟨_, rfl⟩
    rw [HS.out] at HN1 HN2 HN3 HRF HN5 HBY r0 ⊢
    clear hr hv hsz f0 f1 f2 f5 hnat
    go_enter Try.func98, Try.ntmps98
    go_upto_region 3 with (go_at_call 97; refine (HN1.out _ r0).mono ?_; clear HN1; rintro e w1 ⟨rfl, r1, o1⟩)
    have q1 := q0.off o1 (show ¬ w.heap.size = g by omega)
    have o1 := o0.trans o1 (fun j h => Or.inl h)
    clear r0 q0 o0
    have hl1 : w.heap.size < w1.heap.size := q1.lt
    have x0 : Row (w1.alloc (.cells #[.bool false, .int .u16 0, .int .u32 0, .int .u16 0, .int .u8 0, .string ByteArray.empty] 130)) w1.heap.size #[.bool false, .int .u16 0, .int .u32 0, .int .u16 0, .int .u8 0, .string ByteArray.empty] 130 := Row.new _ _ _
    go_upto_region 4 with (first
      | (refine build_one rfl 130 _ rfl _ rfl _ built81one ?_)
      | (refine store_cells rfl 130 (.tmp 3) (.tmp 8) rfl w1.heap.size #[.bool true, .int .u16 0, .int .u32 0, .int .u16 0, .int .u8 0, .string ByteArray.empty] rfl rfl 130 _ x0 6 size130 rfl rfl (by simp [Value.oneCell']) ?_))
    have x1 := x0.set #[.bool true, .int .u16 0, .int .u32 0, .int .u16 0, .int .u8 0, .string ByteArray.empty]
    have r2 := (r1.alloc (.cells #[.bool false, .int .u16 0, .int .u32 0, .int .u16 0, .int .u8 0, .string ByteArray.empty] 130)).other (g := w1.heap.size) (by omega) #[.bool true, .int .u16 0, .int .u32 0, .int .u16 0, .int .u8 0, .string ByteArray.empty]
    have q2 := (q1.alloc (.cells #[.bool false, .int .u16 0, .int .u32 0, .int .u16 0, .int .u8 0, .string ByteArray.empty] 130)).other (g := w1.heap.size) (by omega) #[.bool true, .int .u16 0, .int .u32 0, .int .u16 0, .int .u8 0, .string ByteArray.empty]
    have o2 : Off (· = g) w ((w1.alloc (.cells #[.bool false, .int .u16 0, .int .u32 0, .int .u16 0, .int .u8 0, .string ByteArray.empty] 130)).setRow w1.heap.size #[.bool true, .int .u16 0, .int .u32 0, .int .u16 0, .int .u8 0, .string ByteArray.empty]) :=
      (o1.trans (Off.of_below (F := fun _ => False) ((Below.refl _ _).alloc (Nat.le_refl _) _)) (fun j h => h.elim)).trans (Off.of_setRow (F := (· = w1.heap.size)) _ _ _ rfl) (fun j h => Or.inr (by omega))
    clear x0 r1 q1 o1
    generalize (w1.alloc (.cells #[.bool false, .int .u16 0, .int .u32 0, .int .u16 0, .int .u8 0, .string ByteArray.empty] 130)).setRow w1.heap.size #[.bool true, .int .u16 0, .int .u32 0, .int .u16 0, .int .u8 0, .string ByteArray.empty] = w2 at x1 r2 q2 o2 ⊢
    generalize w1.heap.size = h at x1 hl1 ⊢
    have hgh : g < h := by omega
    go_upto_region 5 with (go_at_call 97; refine (HN2.out _ r2).mono ?_; clear HN2; rintro e w3 ⟨rfl, r3, o3⟩
                           have x3 := x1.off o3 (show ¬ h = g by omega)
                           have cc := row_at x3 1 _ rfl
                           have cf := row_frozen x3 1)
    have q3 := row_setCell_other (q2.off o3 (show ¬ w.heap.size = g by omega)) (show w.heap.size ≠ h by omega) 1 (.int .u16 v1)
    have r4 := row_setCell_other r3 (show g ≠ h by omega) 1 (.int .u16 v1)
    have x4 : Row (w3.setCell ⟨h, 1, none⟩ (.int .u16 v1)) h #[.bool true, .int .u16 v1, .int .u32 0, .int .u16 0, .int .u8 0, .string ByteArray.empty] 130 := row_set x3 1 _
    have o4 : Off (· = g) w (w3.setCell ⟨h, 1, none⟩ (.int .u16 v1)) := (o2.trans o3 (fun j h => Or.inl h)).trans (Off.of_setCell (F := (· = h)) _ _ _ rfl) (fun j h => Or.inr (by omega))
    clear cc cf x3 x1 r2 r3 q2 o2 o3
    generalize w3.setCell ⟨h, 1, none⟩ (.int .u16 v1) = w4 at q3 r4 x4 o4 ⊢
    go_upto_region 6 with (go_at_call 97; refine (HN3.out _ r4).mono ?_; clear HN3; rintro e w5 ⟨rfl, r5, o5⟩
                           have x5 := x4.off o5 (show ¬ h = g by omega)
                           have cc := row_at x5 2 _ rfl
                           have cf := row_frozen x5 2)
    have q5 := row_setCell_other (q3.off o5 (show ¬ w.heap.size = g by omega)) (show w.heap.size ≠ h by omega) 2 (.int .u32 v2)
    have r6 := row_setCell_other r5 (show g ≠ h by omega) 2 (.int .u32 v2)
    have x6 : Row (w5.setCell ⟨h, 2, none⟩ (.int .u32 v2)) h #[.bool true, .int .u16 v1, .int .u32 v2, .int .u16 0, .int .u8 0, .string ByteArray.empty] 130 := row_set x5 2 _
    have o6 : Off (· = g) w (w5.setCell ⟨h, 2, none⟩ (.int .u32 v2)) := (o4.trans o5 (fun j h => Or.inl h)).trans (Off.of_setCell (F := (· = h)) _ _ _ rfl) (fun j h => Or.inr (by omega))
    clear cc cf x5 x4 r4 r5 q3 o4 o5
    generalize w5.setCell ⟨h, 2, none⟩ (.int .u32 v2) = w6 at q5 r6 x6 o6 ⊢
    go_upto_region 7 with (go_at_call 99; refine (HRF.out _ r6).mono ?_; clear HRF; rintro e w7 ⟨rfl, r7, o7⟩
                           have x7 := x6.off o7 (show ¬ h = g by omega)
                           have cc := row_at x7 3 _ rfl
                           have cf := row_frozen x7 3
                           have cd := row_at x7 4 _ rfl
                           have cg := row_frozen x7 4)
    have q7 := row_setCell_other (row_setCell_other (q5.off o7 (show ¬ w.heap.size = g by omega)) (show w.heap.size ≠ h by omega) 3 (.int .u16 v3)) (show w.heap.size ≠ h by omega) 4 (.int .u8 v4)
    have r8 := row_setCell_other (row_setCell_other r7 (show g ≠ h by omega) 3 (.int .u16 v3)) (show g ≠ h by omega) 4 (.int .u8 v4)
    have x8 : Row ((w7.setCell ⟨h, 3, none⟩ (.int .u16 v3)).setCell ⟨h, 4, none⟩ (.int .u8 v4)) h #[.bool true, .int .u16 v1, .int .u32 v2, .int .u16 v3, .int .u8 v4, .string ByteArray.empty] 130 := row_set (row_set x7 3 _) 4 _
    have o8 : Off (· = g) w ((w7.setCell ⟨h, 3, none⟩ (.int .u16 v3)).setCell ⟨h, 4, none⟩ (.int .u8 v4)) := ((o6.trans o7 (fun j h => Or.inl h)).trans (Off.of_setCell (F := (· = h)) _ _ _ rfl) (fun j h => Or.inr (by omega))).trans (Off.of_setCell (F := (· = h)) _ _ _ rfl) (fun j h => Or.inr (by omega))
    clear cc cf cd cg x7 x6 r6 r7 q5 o6 o7
    generalize (w7.setCell ⟨h, 3, none⟩ (.int .u16 v3)).setCell ⟨h, 4, none⟩ (.int .u8 v4) = w8 at q7 r8 x8 o8 ⊢
    go_upto_region 8 with (first
      | (go_at_call 97; refine (HN5.out _ r8).mono ?_; clear HN5; rintro e w9 ⟨rfl, r9', o9⟩
         have r9 : Row w9 g #[.string S, .int .i64 ((a + 11 : Nat) : Int)] 179 := r9'
         clear r9')
      | (go_at_call 100; refine (HBY.out _ r9).mono ?_; clear HBY; rintro e w10 ⟨rfl, r10, o10⟩
         have x10 := (x8.off o9 (show ¬ h = g by omega)).off o10 (show ¬ h = g by omega)
         have cc := row_at x10 5 _ rfl
         have cf := row_frozen x10 5))
    have q10 := row_setCell_other ((q7.off o9 (show ¬ w.heap.size = g by omega)).off o10 (show ¬ w.heap.size = g by omega)) (show w.heap.size ≠ h by omega) 5 (.string B)
    have r11 := row_setCell_other r10 (show g ≠ h by omega) 5 (.string B)
    have x11 : Row (w10.setCell ⟨h, 5, none⟩ (.string B)) h #[.bool true, .int .u16 v1, .int .u32 v2, .int .u16 v3, .int .u8 v4, .string B] 130 := row_set x10 5 _
    have o11 : Off (· = g) w (w10.setCell ⟨h, 5, none⟩ (.string B)) := ((o8.trans o9 (fun j h => Or.inl h)).trans o10 (fun j h => Or.inl h)).trans (Off.of_setCell (F := (· = h)) _ _ _ rfl) (fun j h => Or.inr (by omega))
    clear cc cf x10 x8 r8 r9 r10 q7 o8 o9 o10
    generalize w10.setCell ⟨h, 5, none⟩ (.string B) = w11 at q10 r11 x11 o11 ⊢
    go_wp2_with (first
      | (refine load_cells rfl 130 (.tmp 3) rfl h rfl 130 #[.bool true, .int .u16 v1, .int .u32 v2, .int .u16 v3, .int .u8 v4, .string B] x11 6 Try.underlying130 rfl size130 rfl ?_)
      | (refine store_cells rfl 130 (.tmp 2) (.tmp 26) rfl w.heap.size #[.bool true, .int .u16 v1, .int .u32 v2, .int .u16 v3, .int .u8 v4, .string B] rfl rfl 130 _ q10 6 size130 rfl rfl (by simp [Value.oneCell']) ?_))
    refine bodyPost_ret (v := .agg #[.bool true, .int .u16 v1, .int .u32 v2, .int .u16 v3, .int .u8 v4, .string B]) ?_ rfl ⟨by rw [HO.out], by rw [HX.out]; exact r11.other (by omega) _, o11.trans (Off.of_setRow (F := (· = w.heap.size)) _ _ _ rfl) (fun j h => Or.inr (by omega))⟩
    exact ret_cell (fn := Try.f98) rfl _ _ w.heap.size 130 _ _ rfl (q10.set _) Try.underlying130 rfl size130
end Go.Proofs.Ytehogiondcpbcaa
