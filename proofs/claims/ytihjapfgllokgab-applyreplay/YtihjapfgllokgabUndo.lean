/-
  Proved here: page.oldText, page.PutUndo: the bytes of an undo page's records, and its payload, if there may be such a page.
-/
import Derived.Test.YtihjapfgllokgabFact
namespace Go.Proofs.Ytihjapfgllokgab
open Go.ChangeShapes Go.WideShapes Go.ChangeAt Go.RowKit
set_option linter.unusedVariables false
set_option linter.unusedSimpArgs false
set_option maxRecDepth 20000

/-- A record's numbers fit. -/
structure O.Fits (o : O) : Prop where
  page : 0 ≤ o.page ∧ o.page ≤ 65535
  ts : 0 ≤ o.ts ∧ o.ts ≤ 4294967295
  np : 0 ≤ o.np ∧ o.np ≤ 65535
  ns : 0 ≤ o.ns ∧ o.ns ≤ 255
theorem O.zero_fits : O.zero.Fits := ⟨by decide, by decide, by decide, by decide⟩
/-- A record's bytes. -/
def liveT (o : O) : List Int := low 1 1 ++ low o.page 2 ++ low o.ts 4 ++ refT o.np o.ns
def oldT (o : O) : List Int := if o.live then liveT o ++ low o.delta.size 1 ++ nums o.delta else low 0 1
theorem liveT_length (o : O) : (liveT o).length = 10 := by simp [liveT, low_length, refT_length]
theorem oldT_length (o : O) : (oldT o).length = if o.live then 11 + o.delta.size else 1 := by
  unfold oldT
  split
  · simp [liveT_length, low_length, nums_length]; omega
  · simp [low_length]
theorem oldT_bytes (o : O) : Bytes (oldT o) := by
  unfold oldT
  split
  · exact (((((low_bytes _ _).append (low_bytes _ _)).append (low_bytes _ _)).append (refT_bytes _ _)).append (low_bytes _ _)).append (nums_bytes _)
  · exact low_bytes _ _
/-- An undo page's records as a text. -/
def oldsT (os : List O) : List Int := os.flatMap oldT
def undoT (os : List O) : List Int := low os.length 1 ++ oldsT os
theorem oldsT_bytes (os : List O) : Bytes (oldsT os) := by
  intro y hy
  obtain ⟨o, _, h⟩ := List.mem_flatMap.1 hy
  exact oldT_bytes o y h
theorem undoT_bytes (os : List O) : Bytes (undoT os) := (low_bytes _ _).append (oldsT_bytes os)
theorem oldsT_snoc (os : List O) (k : Nat) (o : O) (h : os[k]? = some o) : oldsT (os.take (k + 1)) = oldsT (os.take k) ++ oldT o := by
  unfold oldsT
  rw [List.take_add_one, h, List.flatMap_append]; simp
theorem psize_from (os : List O) : ∀ n : Int, os.foldl (fun n o => n + if o.live then 11 + (o.delta.size : Int) else 1) n = n + (oldsT os).length := by
  induction os with
  | nil => intro n; simp [oldsT]
  | cons o r ih =>
    intro n
    rw [List.foldl_cons, ih]
    have : oldsT (o :: r) = oldT o ++ oldsT r := rfl
    rw [this, List.length_append, oldT_length]
    cases hl : o.live <;> simp <;> omega
theorem psize_is (os : List O) : psize os = 15 + (undoT os).length := by
  unfold psize undoT
  rw [psize_from, List.length_append, low_length]; omega

set_option maxHeartbeats 2000000 in
theorem old_text (o : O) (w : World) (ho : o.Fits) (hd : o.delta.size ≤ 1000) :
    Calls Try.prog 47 #[.agg o.arr] w fun e w' => e = .returned (.string (strOfNums (oldT o))) ∧ Below w.heap.size w w' := by
  obtain ⟨l, pg, ts, np, ns, dl⟩ := o
  obtain ⟨h1, h2, h3, h4⟩ := ho
  simp only at h1 h2 h3 h4 hd
  unfold O.arr
  simp only
  have r0 : Row (w.alloc (.cells #[.bool l, .int .u16 pg, .int .u32 ts, .int .u16 np, .int .u8 ns, .string dl] 35)) w.heap.size #[.bool l, .int .u16 pg, .int .u32 ts, .int .u16 np, .int .u8 ns, .string dl] 35 := Row.new _ _ _
  have b0 : Below w.heap.size w (w.alloc (.cells #[.bool l, .int .u16 pg, .int .u32 ts, .int .u16 np, .int .u8 ns, .string dl] 35)) := (Below.refl _ _).alloc (Nat.le_refl _) _
  have c0 := row_at r0 0 _ rfl
  cases l
  · have HT : Hid (oldT ⟨false, pg, ts, np, ns, dl⟩ = low 0 1) := rfl
    rw [HT.out]
    have P1 : Hid _ := put_at 0 1 _ rfl (by omega) (by omega) (by decide)
    generalize low 0 1 = A at P1
    go_enter Try.func47, Try.ntmps47
    go_wp2_with (go_at_call 46; refine (P1.out _).mono ?_; clear P1; rintro e w1 ⟨rfl, h1⟩)
    go_ret
    exact ⟨rfl, b0.trans (h1.mono b0.size)⟩
  · obtain ⟨T, HT⟩ : ∃ T, Hid (oldT ⟨true, pg, ts, np, ns, dl⟩ = T) := ⟨_, rfl⟩
    obtain ⟨L, HL⟩ : ∃ T, Hid (liveT ⟨true, pg, ts, np, ns, dl⟩ = T) := ⟨_, rfl⟩
    have hLl := liveT_length ⟨true, pg, ts, np, ns, dl⟩
    rw [HL.out] at hLl
    rw [HT.out]
    obtain ⟨A1, HA1⟩ : ∃ A, Hid (low 1 1 = A) := ⟨_, rfl⟩
    obtain ⟨A2, HA2⟩ : ∃ A, Hid (low pg 2 = A) := ⟨_, rfl⟩
    obtain ⟨A3, HA3⟩ : ∃ A, Hid (low ts 4 = A) := ⟨_, rfl⟩
    obtain ⟨A4, HA4⟩ : ∃ A, Hid (refT np ns = A) := ⟨_, rfl⟩
    obtain ⟨A5, HA5⟩ : ∃ A, Hid (low dl.size 1 = A) := ⟨_, rfl⟩
    obtain ⟨B2, HB2⟩ : ∃ A, Hid (A1 ++ A2 = A) := ⟨_, rfl⟩
    obtain ⟨B3, HB3⟩ : ∃ A, Hid (B2 ++ A3 = A) := ⟨_, rfl⟩
    obtain ⟨B5, HB5⟩ : ∃ A, Hid (L ++ A5 = A) := ⟨_, rfl⟩
    have P1 : Hid _ := put_at 1 1 A1 HA1.out (by omega) (by omega) (by decide)
    have P2 : Hid _ := put_at pg 2 A2 HA2.out (by omega) (by omega) (by decide)
    have P3 : Hid _ := put_at ts 4 A3 HA3.out (by omega) (by omega) (by decide)
    have P4 : Hid _ := fun w => ref_any np ns w h3 h4
    have P5 : Hid _ := put_at dl.size 1 A5 HA5.out (by omega) (by omega) (by decide)
    rw [HA4.out] at P4
    have e1 : IntKind.u64.wrap pg = pg := by rw [IntKind.wrap_u64]; omega
    have e2 : IntKind.u64.wrap ts = ts := by rw [IntKind.wrap_u64]; omega
    have e3 : IntKind.u64.wrap (dl.size : Int) = dl.size := by rw [IntKind.wrap_u64]; omega
    have z1 : (strOfNums A1).size = 1 := by rw [strOfNums_size, ← HA1.out, low_length]
    have z2 : (strOfNums A2).size = 2 := by rw [strOfNums_size, ← HA2.out, low_length]
    have z3 : (strOfNums A3).size = 4 := by rw [strOfNums_size, ← HA3.out, low_length]
    have z4 : (strOfNums A4).size = 3 := by rw [strOfNums_size, ← HA4.out, refT_length]
    have z5 : (strOfNums A5).size = 1 := by rw [strOfNums_size, ← HA5.out, low_length]
    have t1 : strOfNums A1 ++ strOfNums A2 = strOfNums B2 := by rw [tx_app, HB2.out]
    have t2 : strOfNums B2 ++ strOfNums A3 = strOfNums B3 := by rw [tx_app, HB3.out]
    have t3 : strOfNums B3 ++ strOfNums A4 = strOfNums L := by rw [tx_app, ← HB3.out, ← HB2.out, ← HA1.out, ← HA2.out, ← HA3.out, ← HA4.out, ← HL.out]; rfl
    have t4 : strOfNums L ++ strOfNums A5 = strOfNums B5 := by rw [tx_app, HB5.out]
    have t5 : strOfNums B5 ++ dl = strOfNums T := by
      conv => lhs; rw [← tx_nums dl]
      rw [tx_app, ← HB5.out, ← HL.out, ← HA5.out, ← HT.out]; rfl
    have z6 : (strOfNums B2).size = 3 := by rw [← t1, ByteArray.size_append, z1, z2]
    have z7 : (strOfNums B3).size = 7 := by rw [← t2, ByteArray.size_append, z6, z3]
    have z8 : (strOfNums L).size = 10 := by rw [strOfNums_size, hLl]
    have z9 : (strOfNums B5).size = 11 := by rw [← t4, ByteArray.size_append, z8, z5]
    go_enter Try.func47, Try.ntmps47
    go_upto_region 3 with fail
    clear c0
    generalize w.alloc (.cells #[.bool true, .int .u16 pg, .int .u32 ts, .int .u16 np, .int .u8 ns, .string dl] 35) = w1 at r0 b0 ⊢
    refine wp_region_held_drew (S := fun w' => Row w' w.heap.size #[.bool true, .int .u16 pg, .int .u32 ts, .int .u16 np, .int .u8 ns, .string dl] 35 ∧ Below w.heap.size w w') (by kernel_rfl) ⟨r0, b0.drew⟩ fun hS => ?_
    clear r0 b0
    refine wpAnyH_take (i := 1) (v := .pointer (some ⟨w.heap.size, 1, none⟩)) rfl (by kernel_rfl) (by kernel_rfl) (by kernel_rfl) (fun _ _ _ h => h) (Or.inl ⟨by rfl, fun w _ => by go_simp⟩) hS ?_
    try simp only [Act.put, List.getElem_toArray, List.getElem_cons_zero, List.getElem_cons_succ, List.setIfInBounds_toArray, List.set_cons_zero, List.set_cons_succ]
    refine wpAnyH_take (i := 2) (v := .int .u16 pg) rfl (by kernel_rfl) (by kernel_rfl) (by kernel_rfl) (fun _ _ _ h => h) (Or.inl ⟨by rfl, fun w h => by have c1 := row_at h.1 1 _ rfl; go_simp⟩) hS ?_
    try simp only [Act.put, List.getElem_toArray, List.getElem_cons_zero, List.getElem_cons_succ, List.setIfInBounds_toArray, List.set_cons_zero, List.set_cons_succ]
    refine wpAnyH_take (i := 3) (v := .int .u64 pg) rfl (by kernel_rfl) (by kernel_rfl) (by kernel_rfl) (fun _ _ _ h => h) (Or.inl ⟨by rfl, fun w _ => by go_simp⟩) hS ?_
    try simp only [Act.put, List.getElem_toArray, List.getElem_cons_zero, List.getElem_cons_succ, List.setIfInBounds_toArray, List.set_cons_zero, List.set_cons_succ]
    refine wpAnyH_take (i := 6) (v := .pointer (some ⟨w.heap.size, 2, none⟩)) rfl (by kernel_rfl) (by kernel_rfl) (by kernel_rfl) (fun _ _ _ h => h) (Or.inl ⟨by rfl, fun w _ => by go_simp⟩) hS ?_
    try simp only [Act.put, List.getElem_toArray, List.getElem_cons_zero, List.getElem_cons_succ, List.setIfInBounds_toArray, List.set_cons_zero, List.set_cons_succ]
    refine wpAnyH_take (i := 7) (v := .int .u32 ts) rfl (by kernel_rfl) (by kernel_rfl) (by kernel_rfl) (fun _ _ _ h => h) (Or.inl ⟨by rfl, fun w h => by have c2 := row_at h.1 2 _ rfl; go_simp⟩) hS ?_
    try simp only [Act.put, List.getElem_toArray, List.getElem_cons_zero, List.getElem_cons_succ, List.setIfInBounds_toArray, List.set_cons_zero, List.set_cons_succ]
    refine wpAnyH_take (i := 8) (v := .int .u64 ts) rfl (by kernel_rfl) (by kernel_rfl) (by kernel_rfl) (fun _ _ _ h => h) (Or.inl ⟨by rfl, fun w _ => by go_simp⟩) hS ?_
    try simp only [Act.put, List.getElem_toArray, List.getElem_cons_zero, List.getElem_cons_succ, List.setIfInBounds_toArray, List.set_cons_zero, List.set_cons_succ]
    refine wpAnyH_take (i := 11) (v := .pointer (some ⟨w.heap.size, 3, none⟩)) rfl (by kernel_rfl) (by kernel_rfl) (by kernel_rfl) (fun _ _ _ h => h) (Or.inl ⟨by rfl, fun w _ => by go_simp⟩) hS ?_
    try simp only [Act.put, List.getElem_toArray, List.getElem_cons_zero, List.getElem_cons_succ, List.setIfInBounds_toArray, List.set_cons_zero, List.set_cons_succ]
    refine wpAnyH_take (i := 12) (v := .agg #[.int .u16 np, .int .u8 ns]) rfl (by kernel_rfl) (by kernel_rfl) (by kernel_rfl) (fun _ _ _ h => h) (Or.inl ⟨by rfl, fun w h => by have c3 := row_at h.1 3 _ rfl; have c4 := row_at h.1 4 _ rfl; go_simp⟩) hS ?_
    try simp only [Act.put, List.getElem_toArray, List.getElem_cons_zero, List.getElem_cons_succ, List.setIfInBounds_toArray, List.set_cons_zero, List.set_cons_succ]
    refine wpAnyH_ready (rs := [0]) (by kernel_rfl) (by simp) ?_
    refine AllReadyH.cons rfl (fun K hK => ?_) AllReadyH.nil
    go_simp
    go_at_call 46
    refine (P1.out _).mono ?_
    rintro e wc ⟨rfl, hcb⟩
    refine hK.out _ _ (⟨hS.1.below hcb hS.1.lt, hS.2.trans (hcb.mono hS.2.size)⟩) fun hS => ?_
    try simp only [Act.put, List.getElem_toArray, List.getElem_cons_zero, List.getElem_cons_succ, List.setIfInBounds_toArray, List.set_cons_zero, List.set_cons_succ]
    refine wpAnyH_ready (rs := [4]) (by kernel_rfl) (by simp) ?_
    refine AllReadyH.cons rfl (fun K hK => ?_) AllReadyH.nil
    go_simp
    go_at_call 46
    refine (P2.out _).mono ?_
    rintro e wc ⟨rfl, hcb⟩
    refine hK.out _ _ (⟨hS.1.below hcb hS.1.lt, hS.2.trans (hcb.mono hS.2.size)⟩) fun hS => ?_
    try simp only [Act.put, List.getElem_toArray, List.getElem_cons_zero, List.getElem_cons_succ, List.setIfInBounds_toArray, List.set_cons_zero, List.set_cons_succ]
    refine wpAnyH_take (i := 5) (v := .string (strOfNums B2)) rfl (by kernel_rfl) (by kernel_rfl) (by kernel_rfl) (fun _ _ _ h => h) (Or.inl ⟨by rfl, fun w _ => by go_simp⟩) hS ?_
    try simp only [Act.put, List.getElem_toArray, List.getElem_cons_zero, List.getElem_cons_succ, List.setIfInBounds_toArray, List.set_cons_zero, List.set_cons_succ]
    refine wpAnyH_ready (rs := [9]) (by kernel_rfl) (by simp) ?_
    refine AllReadyH.cons rfl (fun K hK => ?_) AllReadyH.nil
    go_simp
    go_at_call 46
    refine (P3.out _).mono ?_
    rintro e wc ⟨rfl, hcb⟩
    refine hK.out _ _ (⟨hS.1.below hcb hS.1.lt, hS.2.trans (hcb.mono hS.2.size)⟩) fun hS => ?_
    try simp only [Act.put, List.getElem_toArray, List.getElem_cons_zero, List.getElem_cons_succ, List.setIfInBounds_toArray, List.set_cons_zero, List.set_cons_succ]
    refine wpAnyH_take (i := 10) (v := .string (strOfNums B3)) rfl (by kernel_rfl) (by kernel_rfl) (by kernel_rfl) (fun _ _ _ h => h) (Or.inl ⟨by rfl, fun w _ => by go_simp⟩) hS ?_
    try simp only [Act.put, List.getElem_toArray, List.getElem_cons_zero, List.getElem_cons_succ, List.setIfInBounds_toArray, List.set_cons_zero, List.set_cons_succ]
    refine wpAnyH_ready (rs := [13]) (by kernel_rfl) (by simp) ?_
    refine AllReadyH.cons rfl (fun K hK => ?_) AllReadyH.nil
    go_simp
    go_at_call 49
    refine (P4.out _).mono ?_
    rintro e wc ⟨rfl, hcb⟩
    refine hK.out _ _ (⟨hS.1.below hcb hS.1.lt, hS.2.trans (hcb.mono hS.2.size)⟩) fun hS => ?_
    try simp only [Act.put, List.getElem_toArray, List.getElem_cons_zero, List.getElem_cons_succ, List.setIfInBounds_toArray, List.set_cons_zero, List.set_cons_succ]
    refine wpAnyH_take (i := 14) (v := .string (strOfNums L)) rfl (by kernel_rfl) (by kernel_rfl) (by kernel_rfl) (fun _ _ _ h => h) (Or.inl ⟨by rfl, fun w _ => by go_simp⟩) hS ?_
    try simp only [Act.put, List.getElem_toArray, List.getElem_cons_zero, List.getElem_cons_succ, List.setIfInBounds_toArray, List.set_cons_zero, List.set_cons_succ]
    refine wpAnyH_take (i := 15) (v := .string (strOfNums L)) rfl (by kernel_rfl) (by kernel_rfl) (by kernel_rfl) (fun _ _ _ h => h) (Or.inl ⟨by rfl, fun w _ => by go_simp⟩) hS ?_
    try simp only [Act.put, List.getElem_toArray, List.getElem_cons_zero, List.getElem_cons_succ, List.setIfInBounds_toArray, List.set_cons_zero, List.set_cons_succ]
    refine wpAnyH_done (by kernel_rfl) ?_ _
    clear hcb
    go_upto_region 4 with fail
    refine wp_region_held_drew (S := fun w' => Row w' w.heap.size #[.bool true, .int .u16 pg, .int .u32 ts, .int .u16 np, .int .u8 ns, .string dl] 35 ∧ Below w.heap.size w w') (by kernel_rfl) ⟨hS.1, hS.2.drew⟩ fun hS => ?_
    refine wpAnyH_take (i := 0) (v := .string (strOfNums L)) rfl (by kernel_rfl) (by kernel_rfl) (by kernel_rfl) (fun _ _ _ h => h) (Or.inl ⟨by rfl, fun w _ => by go_simp⟩) hS ?_
    try simp only [Act.put, List.getElem_toArray, List.getElem_cons_zero, List.getElem_cons_succ, List.setIfInBounds_toArray, List.set_cons_zero, List.set_cons_succ]
    refine wpAnyH_take (i := 1) (v := .pointer (some ⟨w.heap.size, 5, none⟩)) rfl (by kernel_rfl) (by kernel_rfl) (by kernel_rfl) (fun _ _ _ h => h) (Or.inl ⟨by rfl, fun w _ => by go_simp⟩) hS ?_
    try simp only [Act.put, List.getElem_toArray, List.getElem_cons_zero, List.getElem_cons_succ, List.setIfInBounds_toArray, List.set_cons_zero, List.set_cons_succ]
    refine wpAnyH_take (i := 2) (v := .string dl) rfl (by kernel_rfl) (by kernel_rfl) (by kernel_rfl) (fun _ _ _ h => h) (Or.inl ⟨by rfl, fun w h => by have c5 := row_at h.1 5 _ rfl; go_simp⟩) hS ?_
    try simp only [Act.put, List.getElem_toArray, List.getElem_cons_zero, List.getElem_cons_succ, List.setIfInBounds_toArray, List.set_cons_zero, List.set_cons_succ]
    refine wpAnyH_take (i := 3) (v := .int .i64 dl.size) rfl (by kernel_rfl) (by kernel_rfl) (by kernel_rfl) (fun _ _ _ h => h) (Or.inl ⟨by rfl, fun w _ => by go_simp⟩) hS ?_
    try simp only [Act.put, List.getElem_toArray, List.getElem_cons_zero, List.getElem_cons_succ, List.setIfInBounds_toArray, List.set_cons_zero, List.set_cons_succ]
    refine wpAnyH_take (i := 4) (v := .int .u64 dl.size) rfl (by kernel_rfl) (by kernel_rfl) (by kernel_rfl) (fun _ _ _ h => h) (Or.inl ⟨by rfl, fun w _ => by go_simp⟩) hS ?_
    try simp only [Act.put, List.getElem_toArray, List.getElem_cons_zero, List.getElem_cons_succ, List.setIfInBounds_toArray, List.set_cons_zero, List.set_cons_succ]
    refine wpAnyH_take (i := 7) (v := .pointer (some ⟨w.heap.size, 5, none⟩)) rfl (by kernel_rfl) (by kernel_rfl) (by kernel_rfl) (fun _ _ _ h => h) (Or.inl ⟨by rfl, fun w _ => by go_simp⟩) hS ?_
    try simp only [Act.put, List.getElem_toArray, List.getElem_cons_zero, List.getElem_cons_succ, List.setIfInBounds_toArray, List.set_cons_zero, List.set_cons_succ]
    refine wpAnyH_take (i := 8) (v := .string dl) rfl (by kernel_rfl) (by kernel_rfl) (by kernel_rfl) (fun _ _ _ h => h) (Or.inl ⟨by rfl, fun w h => by have c5 := row_at h.1 5 _ rfl; go_simp⟩) hS ?_
    try simp only [Act.put, List.getElem_toArray, List.getElem_cons_zero, List.getElem_cons_succ, List.setIfInBounds_toArray, List.set_cons_zero, List.set_cons_succ]
    refine wpAnyH_ready (rs := [5]) (by kernel_rfl) (by simp) ?_
    refine AllReadyH.cons rfl (fun K hK => ?_) AllReadyH.nil
    go_simp
    go_at_call 46
    refine (P5.out _).mono ?_
    rintro e wc ⟨rfl, hcb⟩
    refine hK.out _ _ (⟨hS.1.below hcb hS.1.lt, hS.2.trans (hcb.mono hS.2.size)⟩) fun hS => ?_
    try simp only [Act.put, List.getElem_toArray, List.getElem_cons_zero, List.getElem_cons_succ, List.setIfInBounds_toArray, List.set_cons_zero, List.set_cons_succ]
    refine wpAnyH_take (i := 6) (v := .string (strOfNums B5)) rfl (by kernel_rfl) (by kernel_rfl) (by kernel_rfl) (fun _ _ _ h => h) (Or.inl ⟨by rfl, fun w _ => by go_simp⟩) hS ?_
    try simp only [Act.put, List.getElem_toArray, List.getElem_cons_zero, List.getElem_cons_succ, List.setIfInBounds_toArray, List.set_cons_zero, List.set_cons_succ]
    refine wpAnyH_take (i := 9) (v := .string (strOfNums T)) rfl (by kernel_rfl) (by kernel_rfl) (by kernel_rfl) (fun _ _ _ h => h) (Or.inl ⟨by rfl, fun w _ => by go_simp; omega⟩) hS ?_
    try simp only [Act.put, List.getElem_toArray, List.getElem_cons_zero, List.getElem_cons_succ, List.setIfInBounds_toArray, List.set_cons_zero, List.set_cons_succ]
    refine wpAnyH_take (i := 10) (v := .string (strOfNums T)) rfl (by kernel_rfl) (by kernel_rfl) (by kernel_rfl) (fun _ _ _ h => h) (Or.inl ⟨by rfl, fun w _ => by go_simp⟩) hS ?_
    try simp only [Act.put, List.getElem_toArray, List.getElem_cons_zero, List.getElem_cons_succ, List.setIfInBounds_toArray, List.set_cons_zero, List.set_cons_succ]
    refine wpAnyH_done (by kernel_rfl) ?_ _
    go_wp2
    go_ret
    exact ⟨rfl, hS.2⟩

/-- An undo page's payload, or none, and why. -/
def putU (no lsn : Int) (os : List O) : List Int := if may os then payT 2 no lsn (undoT os) else zs 224
def errU (os : List O) : Int := if may os then 0 else 1
theorem undoT_le (os : List O) (h : may os = true) : (undoT os).length ≤ 209 := by
  have := (may_small h).2.2.2
  rw [psize_is] at this; omega
theorem putU_length (no lsn : Int) (os : List O) : (putU no lsn os).length = 224 := by
  unfold putU
  split
  · rename_i h; exact payT_length _ _ _ _ (undoT_le os h)
  · exact zs_length _
theorem putU_bytes (no lsn : Int) (os : List O) : Bytes (putU no lsn os) := by
  unfold putU
  split
  · exact payT_bytes _ _ _ _ (undoT_bytes os)
  · exact zs_bytes _
theorem oldsT_le (os : List O) (h : may os = true) (k : Nat) : (oldsT (os.take k)).length ≤ 209 := by
  have h1 := undoT_le os h
  unfold undoT at h1
  rw [List.length_append] at h1
  have e : oldsT os = oldsT (os.take k) ++ oldsT (os.drop k) := by unfold oldsT; rw [← List.flatMap_append, List.take_append_drop]
  rw [e, List.length_append] at h1
  omega
set_option maxHeartbeats 2000000 in
theorem putUndo_any (no lsn : Int) (v : Value) (os : List O) (w : World) (ho : Olds w v os) (hf : ∀ o ∈ os, o.Fits) (hno : 0 ≤ no ∧ no ≤ 65535) (hlsn : 0 ≤ lsn ∧ lsn ≤ 18446744073709551615) :
    Calls Try.prog 26 #[.int .u16 no, .agg #[.int .u64 lsn, v]] w fun e w' => e = .returned (.tuple #[.agg (bs (putU no lsn os)), .int .i64 (errU os)]) ∧ Below w.heap.size w w' := by
  have hz := zero26
  have hmay := fun (wa : World) (hb : Below w.heap.size w wa) => may_any lsn v os wa (ho.keep hb)
  obtain ⟨oa, cap, rfl, hcs⟩ := ho.hold
  have HCS : Hid _ := hcs
  have HMAY : Hid _ := hmay
  clear hcs ho hmay
  obtain ⟨n, HN⟩ : ∃ n, Hid (os.length = n) := ⟨_, rfl⟩
  rw [HN.out] at HCS HMAY ⊢
  have r0 : Row ((w.alloc (.cells #[.int .u64 lsn, .slice oa n cap] 64)).alloc (.cells (bs (zs 224)) 26)) w.heap.size #[.int .u64 lsn, .slice oa n cap] 64 := (Row.new _ _ _).alloc _
  have r1 : Row ((w.alloc (.cells #[.int .u64 lsn, .slice oa n cap] 64)).alloc (.cells (bs (zs 224)) 26)) (w.heap.size + 1) (bs (zs 224)) 26 := by have := Row.new (w.alloc (.cells #[.int .u64 lsn, .slice oa n cap] 64)) (bs (zs 224)) 26; simpa using this
  have ab : Below w.heap.size w ((w.alloc (.cells #[.int .u64 lsn, .slice oa n cap] 64)).alloc (.cells (bs (zs 224)) 26)) := ((Below.refl _ _).alloc (Nat.le_refl _) _).alloc (by simp) _
  obtain ⟨m, HM⟩ : ∃ m, Hid (may os = m) := ⟨_, rfl⟩
  rw [HM.out] at HMAY
  go_enter Try.func26, Try.ntmps26
  go_upto_region 1 with fail
  generalize (w.alloc (.cells #[.int .u64 lsn, .slice oa n cap] 64)).alloc (.cells (bs (zs 224)) 26) = w1 at r0 r1 ab ⊢
  cases m
  · have HU : Hid (putU no lsn os = zs 224) := by show _ = _; unfold putU; rw [HM.out]; rfl
    have HE : Hid (errU os = 1) := by show _ = _; unfold errU; rw [HM.out]; rfl
    go_wp2_with (first
      | (refine load_cells rfl 64 (.tmp 3) rfl w.heap.size rfl 64 #[.int .u64 lsn, .slice oa n cap] r0 2 Try.underlying64 rfl size64 rfl ?_)
      | (go_at_call 45; refine (HMAY.out _ ab).mono ?_; clear HMAY; rintro e w2 ⟨rfl, h2⟩)
      | (refine build_none rfl 26 rfl _ built26 ?_)
      | (refine store_row rfl 26 (.tmp 4) (.tmp 12) rfl (w.heap.size + 1) (zs 224) rfl rfl 26 _ (r1.below h2 r1.lt) 224 size26 (by rw [bs_size, zs_length]) (zs_length _) ?_))
    refine bodyPost_ret (v := .tuple #[.agg (bs (zs 224)), .int .i64 1]) ?_ rfl ⟨by rw [HU.out, HE.out], below_setRow (ab.trans (h2.mono ab.size)) (by omega) _⟩
    exact ret_cell2 (fn := Try.f26) rfl _ _ (w.heap.size + 1) 26 (bs (zs 224)) _ _ rfl rfl ((r1.below h2 r1.lt).set _) Try.underlying26 rfl (by rw [bs_size, zs_length]; exact size26)
  · have HU : Hid (putU no lsn os = payT 2 no lsn (undoT os)) := by show _ = _; unfold putU; rw [HM.out]; rfl
    have HE : Hid (errU os = 0) := by show _ = _; unfold errU; rw [HM.out]; rfl
    have hms := may_small HM.out
    have hn15 : n ≤ 15 := by rw [← HN.out]; exact hms.1
    have hok := hms.2.2.1
    have HOK : Hid (∀ o ∈ os, o.delta.size ≤ 66) := by
      show ∀ o ∈ os, o.delta.size ≤ 66
      intro o ho; have := hok o ho; unfold okO at this; simp at this; exact this.2
    have HLE : Hid _ := fun k => oldsT_le os HM.out k
    have hul := undoT_le os HM.out
    have HPAY : Hid _ := fun w => payload_any 2 no lsn (undoT os) w (by decide) hno hlsn hul (undoT_bytes os)
    have hRl := payT_length 2 no lsn (undoT os) hul
    obtain ⟨R, HR⟩ : ∃ R, Hid (payT 2 no lsn (undoT os) = R) := ⟨_, rfl⟩
    rw [HR.out] at HPAY hRl HU
    have P1 : Hid _ := put_at n 1 _ rfl (by omega) (by omega) (by decide)
    obtain ⟨A, HA⟩ : ∃ R, Hid (low n 1 = R) := ⟨_, rfl⟩
    rw [HA.out] at P1
    have hzA : (strOfNums A).size = 1 := by rw [strOfNums_size, ← HA.out, low_length]
    have e0 : IntKind.u64.wrap (n : Int) = n := by rw [IntKind.wrap_u64]; omega
    clear hms hok hul
    go_upto_region 3 with (first
      | (refine load_cells rfl 64 (.tmp 3) rfl w.heap.size rfl 64 #[.int .u64 lsn, .slice oa n cap] r0 2 Try.underlying64 rfl size64 rfl ?_)
      | (go_at_call 45; refine (HMAY.out _ ab).mono ?_; clear HMAY; rintro e w2 ⟨rfl, h2⟩))
    have a0 := r0.below h2 r0.lt
    have a1 := r1.below h2 r1.lt
    have abb : Below w.heap.size w w2 := ab.trans (h2.mono ab.size)
    clear r0 r1 ab h2
    have c1 := row_at a0 1 _ rfl
    go_upto_region 4 with (go_at_call 46; refine (P1.out _).mono ?_; clear P1; rintro e w3 ⟨rfl, h3⟩)
    have b0 := a0.below h3 a0.lt
    have b1 := a1.below h3 a1.lt
    have bb : Below w.heap.size w w3 := abb.trans (h3.mono abb.size)
    clear a0 a1 abb h3 c1
    have c1 := row_at b0 1 _ rfl
    have hzo := zero35
    have HT0 : Hid (strOfNums (A ++ oldsT (os.take 0)) = strOfNums A) := by show _ = _; simp [oldsT]
    go_wp2
    go_loopw [6, 21] (fun t i wr => ∃ k : Nat, k ≤ n ∧ i = .int .i64 k ∧ t = .string (strOfNums (A ++ oldsT (os.take k))) ∧ Row wr w.heap.size #[.int .u64 lsn, .slice oa n cap] 64 ∧ Row wr (w.heap.size + 1) (bs (zs 224)) 26 ∧ Below w.heap.size w wr) (fun _ i _ => n - (intOf i).toNat)
    case atStart => exact ⟨0, by omega, rfl, by rw [HT0.out], b0, b1, bb⟩
    case round =>
      clear b0 b1 bb c1
      obtain ⟨k, hk, rfl, rfl, b0, b1, bb⟩ := hrel
      have hle := HLE.out k
      by_cases hkn : k < n
      · obtain ⟨a, l, p, t, np, ns, dl, rfl, he, hcell⟩ := HCS.out k hkn
        have hcw : ∀ j u, [Value.bool l, .int .u16 p, .int .u32 t, .int .u16 np, .int .u8 ns, .string dl][j]? = some u → wr.cell? ((a.add (k * 6)).add j) = some u := fun j u hj => cell_keep (hcell j u hj) bb
        have hmem : (⟨l, p, t, np, ns, dl⟩ : O) ∈ os := List.mem_of_getElem? he
        have hdz : dl.size ≤ 66 := HOK.out _ hmem
        have HO : Hid _ := fun w => old_text ⟨l, p, t, np, ns, dl⟩ w (hf _ hmem) (by simp only; omega)
        have HS := show Hid _ from oldsT_snoc os k _ he
        have hol := oldT_length ⟨l, p, t, np, ns, dl⟩
        obtain ⟨X, HX⟩ : ∃ X, Hid (oldT ⟨l, p, t, np, ns, dl⟩ = X) := ⟨_, rfl⟩
        rw [HX.out] at HO HS hol
        obtain ⟨Y, HY⟩ : ∃ X, Hid (A ++ oldsT (os.take k) = X) := ⟨_, rfl⟩
        have HZ : Hid (strOfNums Y ++ strOfNums X = strOfNums (A ++ oldsT (os.take (k + 1)))) := by show _ = _; rw [HS.out, ← List.append_assoc, HY.out, tx_app]
        have hzY : (strOfNums Y).size ≤ 210 := by rw [strOfNums_size, ← HY.out, List.length_append, ← HA.out, low_length]; omega
        have hzX : (strOfNums X).size ≤ 100 := by rw [strOfNums_size, hol]; split <;> simp <;> omega
        rw [HY.out]
        have hcl := hcell
        clear he hcell hcl hmem hol HS
        have tl : Hid (1 = 1) := rfl
        have t2 : Hid (1 = 1) := rfl
        have hkn' : (k : Int) < (n : Int) := by omega
        have q1 : Row (wr.alloc (.cells #[.bool false, .int .u16 0, .int .u32 0, .int .u16 0, .int .u8 0, .string ByteArray.empty] 35)) wr.heap.size #[.bool false, .int .u16 0, .int .u32 0, .int .u16 0, .int .u8 0, .string ByteArray.empty] 35 := Row.new _ _ _
        go_upto_region 7 with (first
          | (have hh := tl; clear hh tl; refine wpList_load_any rfl 35 (.tmp 23) rfl (a.add (k * 6)) rfl [.bool l, .int .u16 p, .int .u32 t, .int .u16 np, .int .u8 ns, .string dl] _ hcw Try.underlying35 rfl size35 ?_)
          | (refine store_cells rfl 35 (.tmp 8) (.tmp 24) rfl wr.heap.size #[.bool l, .int .u16 p, .int .u32 t, .int .u16 np, .int .u8 ns, .string dl] rfl rfl 35 _ q1 6 size35 rfl rfl (by simp [Value.oneCell']) ?_))
        have q2 := q1.set #[.bool l, .int .u16 p, .int .u32 t, .int .u16 np, .int .u8 ns, .string dl]
        have hlt := b0.lt
        have hlt1 := b1.lt
        have d0 := (b0.alloc (.cells #[.bool false, .int .u16 0, .int .u32 0, .int .u16 0, .int .u8 0, .string ByteArray.empty] 35)).other (g := wr.heap.size) (by omega) #[.bool l, .int .u16 p, .int .u32 t, .int .u16 np, .int .u8 ns, .string dl]
        have d1 := (b1.alloc (.cells #[.bool false, .int .u16 0, .int .u32 0, .int .u16 0, .int .u8 0, .string ByteArray.empty] 35)).other (g := wr.heap.size) (by omega) #[.bool l, .int .u16 p, .int .u32 t, .int .u16 np, .int .u8 ns, .string dl]
        have db := below_setRow (bb.alloc bb.size (.cells #[.bool false, .int .u16 0, .int .u32 0, .int .u16 0, .int .u8 0, .string ByteArray.empty] 35)) bb.size #[.bool l, .int .u16 p, .int .u32 t, .int .u16 np, .int .u8 ns, .string dl]
        clear b0 b1 bb q1 hcw
        generalize (wr.alloc (.cells #[.bool false, .int .u16 0, .int .u32 0, .int .u16 0, .int .u8 0, .string ByteArray.empty] 35)).setRow wr.heap.size #[.bool l, .int .u16 p, .int .u32 t, .int .u16 np, .int .u8 ns, .string dl] = w5 at q2 d0 d1 db ⊢
        go_wp2_with (first
          | (refine load_cells rfl 35 (.tmp 8) rfl wr.heap.size rfl 35 #[.bool l, .int .u16 p, .int .u32 t, .int .u16 np, .int .u8 ns, .string dl] q2 6 Try.underlying35 rfl size35 rfl ?_)
          | (go_at_call 47; refine (HO.out _).mono ?_; clear HO; rintro e w6 ⟨rfl, h6⟩))
        go_roundw
        case rel => exact ⟨k + 1, by omega, by go_num, by rw [HZ.out], d0.below h6 d0.lt, d1.below h6 d1.lt, db.trans (h6.mono db.size)⟩
        case measure => simp [intOf]; omega
      · obtain rfl : k = n := by omega
        have ht : os.take k = os := by rw [← HN.out, List.take_length]
        have HT : Hid (A ++ oldsT (os.take k) = undoT os) := by show _ = _; rw [ht, ← HA.out, ← HN.out]; rfl
        rw [HT.out]
        clear ht hle
        have hkn' : ¬ (k : Int) < (k : Int) := by omega
        have c0 := row_at b0 0 _ rfl
        go_wp2_with (first
          | (go_at_call 48; refine (HPAY.out _).mono ?_; clear HPAY; rintro e w6 ⟨rfl, h6⟩)
          | (refine store_row rfl 26 (.tmp 4) (.tmp 34) rfl (w.heap.size + 1) R rfl rfl 26 _ (b1.below h6 b1.lt) 224 size26 (by rw [bs_size, zs_length]) hRl ?_))
        refine bodyPost_ret (v := .tuple #[.agg (bs R), .int .i64 0]) ?_ rfl ⟨by rw [HU.out, HE.out], below_setRow (bb.trans (h6.mono bb.size)) (by omega) _⟩
        exact ret_cell2 (fn := Try.f26) rfl _ _ (w.heap.size + 1) 26 (bs R) _ _ rfl rfl ((b1.below h6 b1.lt).set _) Try.underlying26 rfl (by rw [bs_size, hRl]; exact size26)
end Go.Proofs.Ytihjapfgllokgab
