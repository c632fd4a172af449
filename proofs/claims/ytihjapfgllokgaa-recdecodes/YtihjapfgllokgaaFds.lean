/-
  Proved here: rec.fields: the bytes behind the kind, of a record that may be.
-/
import Derived.Test.YtihjapfgllokgaaMay
import Derived.Test.YtihjapfgllokgaaImg
namespace Go.Proofs.Ytihjapfgllokgaa
open Go.ChangeShapes Go.WideShapes Go.ChangeAt Go.RowKit
set_option linter.unusedVariables false
set_option linter.unusedSimpArgs false

/-- The bytes behind the kind. -/
def fldT (r : R) : List Int :=
  if r.kind = 1 then flagT r.undo ++ low r.no 2 ++ sizeT (strOfNums (imgT r.img))
  else if r.kind = 2 then low r.no 2 ++ low r.ts 4 ++ refT r.pp r.ps ++ sizeT r.delta
  else if r.kind = 3 then low r.no 2 ++ low r.slot 1 ++ oldT r.old
  else if r.kind = 4 ∨ r.kind = 5 then low r.no 2 ++ low r.slot 1
  else low r.ts 4
set_option maxRecDepth 20000 in
set_option maxHeartbeats 4000000 in
theorem fields_1 (r : R) (w : World) (hf : r.Fits) (hd : r.delta.size ≤ 66) (ho : r.old.delta.size ≤ 66) (hk : r.kind = 1) :
    Calls Try.prog 19 #[.agg r.arr] w fun e w' => e = .returned (.string (strOfNums (fldT r))) ∧ Below w.heap.size w w' := by
  have y0 : Row (w.alloc (.cells r.arr 33)) w.heap.size r.arr 33 := Row.new _ _ _
  have yb : Below w.heap.size w (w.alloc (.cells r.arr 33)) := (Below.refl _ _).alloc (Nat.le_refl _) _
  have f1 := hf.no
  have f2 := hf.ts
  have f3 := hf.slot
  obtain ⟨L1, H1⟩ : ∃ L, Hid (low r.no 2 = L) := ⟨_, rfl⟩
  obtain ⟨L2, H2⟩ : ∃ L, Hid (low r.ts 4 = L) := ⟨_, rfl⟩
  have P1 : Hid _ := put_at r.no 2 L1 H1.out (by omega) (by omega) (by decide)
  have P2 : Hid _ := put_at r.ts 4 L2 H2.out (by omega) (by omega) (by decide)
  have z1 : (strOfNums L1).size = 2 := by rw [strOfNums_size, ← H1.out, low_length]
  have z2 : (strOfNums L2).size = 4 := by rw [strOfNums_size, ← H2.out, low_length]
  have e1 : IntKind.u64.wrap r.no = r.no := by rw [IntKind.wrap_u64]; omega
  have e2 : IntKind.u64.wrap r.ts = r.ts := by rw [IntKind.wrap_u64]; omega
  have e3 : IntKind.u64.wrap r.slot = r.slot := by rw [IntKind.wrap_u64]; omega
  have hi : imgN r.img 224 ≤ 224 := imgN_le _ _
  obtain ⟨L3, H3⟩ : ∃ L, Hid (flagT r.undo = L) := ⟨_, rfl⟩
  obtain ⟨L4, H4⟩ : ∃ L, Hid (imgT r.img = L) := ⟨_, rfl⟩
  obtain ⟨L5, H5⟩ : ∃ L, Hid (sizeT (strOfNums L4) = L) := ⟨_, rfl⟩
  obtain ⟨A1, HA1⟩ : ∃ L, Hid (L3 ++ L1 = L) := ⟨_, rfl⟩
  have z4 : L4.length ≤ 224 := by rw [← H4.out]; unfold imgT; rw [List.length_take]; omega
  have P3 : Hid _ := fun w => flag_any r.undo w
  have P4 : Hid _ := fun w => image_any r.img w hf.len hf.img
  have P5 : Hid _ := fun w => sized_any (strOfNums L4) w (by rw [strOfNums_size]; omega)
  rw [H3.out] at P3
  rw [H4.out] at P4
  rw [H5.out] at P5
  have z3 : (strOfNums L3).size = 1 := by rw [strOfNums_size, ← H3.out]; unfold flagT; split <;> rfl
  have z5 : (strOfNums L5).size ≤ 225 := by rw [strOfNums_size, ← H5.out]; unfold sizeT; rw [List.length_append, low_length, nums_length, strOfNums_size]; omega
  have t1 : strOfNums L3 ++ strOfNums L1 = strOfNums A1 := by rw [tx_app, HA1.out]
  have y1 : (strOfNums A1).size = 3 := by rw [← t1, ByteArray.size_append, z3, z1]
  obtain ⟨T, HT⟩ : ∃ T, Hid (fldT r = T) := ⟨_, rfl⟩
  have t2 : strOfNums A1 ++ strOfNums L5 = strOfNums T := by rw [tx_app, ← HA1.out, ← H5.out, ← H4.out, ← H3.out, ← H1.out, ← HT.out]; unfold fldT; rw [if_pos hk]
  have s3 : ¬ (3 + (strOfNums L5).size) > 9223372036854775807 := by omega
  clear z4 hi
  have t1 : (r.kind == 1) = true := by simp [hk]
  clear hk
  have c0 := row_at y0 0 _ (R.at0 r)
  have c2 := row_at y0 2 _ (R.at2 r)
  have HY0 : Hid _ := y0
  go_enter Try.func19, Try.ntmps19
  go_upto_region 2 with (go_at_call 18; refine (P1.out _).mono ?_; clear P1; rintro ex w1 ⟨rfl, b1⟩; have y1 := y0.below b1 y0.lt; have yb1 := yb.trans (b1.mono yb.size); have c3 := row_at y1 227 _ (R.atT r hf.len 0))
  clear y0 yb HY0 c0 c2
  go_upto_region 4 with (go_at_call 18; refine (P2.out _).mono ?_; clear P2; rintro ex w2 ⟨rfl, b2⟩; have y0 := y1.below b2 y1.lt; have yb := yb1.trans (b2.mono yb1.size); have c0 := row_at y0 0 _ (R.at0 r))
  clear y1 yb1 c3 b1 b2
  go_upto_region 10 with fail
  clear c0
  generalize w2 = ww at y0 yb ⊢
  refine wp_region_held_drew (S := fun w' => Row w' w.heap.size r.arr 33 ∧ Below w.heap.size w w') (by kernel_rfl) ⟨y0, yb.drew⟩ fun hS => ?_
  clear y0 yb
  refine wpAnyH_take (i := 0) (v := .pointer (some ⟨w.heap.size, 1, none⟩)) rfl (by kernel_rfl) (by kernel_rfl) (by kernel_rfl) (fun _ _ _ h => h) (Or.inl ⟨by rfl, fun w _ => by go_simp⟩) hS ?_
  try simp only [Act.put, List.getElem_toArray, List.getElem_cons_zero, List.getElem_cons_succ, List.setIfInBounds_toArray, List.set_cons_zero, List.set_cons_succ]
  refine wpAnyH_take (i := 1) (v := .pointer (some ⟨w.heap.size, 1, none⟩)) rfl (by kernel_rfl) (by kernel_rfl) (by kernel_rfl) (fun _ _ _ h => h) (Or.inl ⟨by rfl, fun w _ => by go_simp⟩) hS ?_
  try simp only [Act.put, List.getElem_toArray, List.getElem_cons_zero, List.getElem_cons_succ, List.setIfInBounds_toArray, List.set_cons_zero, List.set_cons_succ]
  refine wpAnyH_take (i := 2) (v := .bool r.undo) rfl (by kernel_rfl) (by kernel_rfl) (by kernel_rfl) (fun _ _ _ h => h) (Or.inl ⟨by rfl, fun w h => by have c := row_at h.1 1 _ (R.at1 r); go_simp⟩) hS ?_
  try simp only [Act.put, List.getElem_toArray, List.getElem_cons_zero, List.getElem_cons_succ, List.setIfInBounds_toArray, List.set_cons_zero, List.set_cons_succ]
  refine wpAnyH_take (i := 4) (v := .string (strOfNums L1)) rfl (by kernel_rfl) (by kernel_rfl) (by kernel_rfl) (fun _ _ _ h => h) (Or.inl ⟨by rfl, fun w _ => by go_simp⟩) hS ?_
  try simp only [Act.put, List.getElem_toArray, List.getElem_cons_zero, List.getElem_cons_succ, List.setIfInBounds_toArray, List.set_cons_zero, List.set_cons_succ]
  refine wpAnyH_take (i := 6) (v := .pointer (some ⟨w.heap.size, 3, none⟩)) rfl (by kernel_rfl) (by kernel_rfl) (by kernel_rfl) (fun _ _ _ h => h) (Or.inl ⟨by rfl, fun w _ => by go_simp⟩) hS ?_
  try simp only [Act.put, List.getElem_toArray, List.getElem_cons_zero, List.getElem_cons_succ, List.setIfInBounds_toArray, List.set_cons_zero, List.set_cons_succ]
  refine wpAnyH_take (i := 7) (v := .agg (bs r.img)) rfl (by kernel_rfl) (by kernel_rfl) (by kernel_rfl) (fun _ _ _ h => h) (yieldsIf_load_mid (by rfl) 26 (.tmp 32) rfl w.heap.size 3 rfl (r.img.map (Value.int .u8)) _ (fun w h => by have c := World.rangeAt_of_block h.1 3 224; rw [R.imgCells r hf.len] at c; exact c) Try.underlying26 rfl (by rw [size26]; simp [hf.len])) hS ?_
  try simp only [Act.put, List.getElem_toArray, List.getElem_cons_zero, List.getElem_cons_succ, List.setIfInBounds_toArray, List.set_cons_zero, List.set_cons_succ]
  refine wpAnyH_ready (rs := [3]) (by kernel_rfl) (by simp) ?_
  refine AllReadyH.cons rfl (fun K hK => ?_) AllReadyH.nil
  go_simp
  go_at_call 40
  refine Calls.mono (P3.out _) ?_
  rintro e wc ⟨rfl, hcb⟩
  refine hK.out _ _ (⟨hS.1.below hcb hS.1.lt, hS.2.trans (hcb.mono hS.2.size)⟩) fun hS => ?_
  try simp only [Act.put, List.getElem_toArray, List.getElem_cons_zero, List.getElem_cons_succ, List.setIfInBounds_toArray, List.set_cons_zero, List.set_cons_succ]
  clear hcb
  refine wpAnyH_take (i := 5) (v := .string (strOfNums A1)) rfl (by kernel_rfl) (by kernel_rfl) (by kernel_rfl) (fun _ _ _ h => h) (Or.inl ⟨by rfl, fun w _ => by go_simp⟩) hS ?_
  try simp only [Act.put, List.getElem_toArray, List.getElem_cons_zero, List.getElem_cons_succ, List.setIfInBounds_toArray, List.set_cons_zero, List.set_cons_succ]
  refine wpAnyH_ready (rs := [8]) (by kernel_rfl) (by simp) ?_
  refine AllReadyH.cons rfl (fun K hK => ?_) AllReadyH.nil
  go_simp
  go_at_call 42
  refine Calls.mono (P4.out _) ?_
  rintro e w2_8 ⟨rfl, hcb⟩
  refine hK.out _ _ (⟨hS.1.below hcb hS.1.lt, hS.2.trans (hcb.mono hS.2.size)⟩) fun hS => ?_
  try simp only [Act.put, List.getElem_toArray, List.getElem_cons_zero, List.getElem_cons_succ, List.setIfInBounds_toArray, List.set_cons_zero, List.set_cons_succ]
  clear hcb
  refine wpAnyH_ready (rs := [9]) (by kernel_rfl) (by simp) ?_
  refine AllReadyH.cons rfl (fun K hK => ?_) AllReadyH.nil
  go_simp
  go_at_call 41
  refine Calls.mono (P5.out _) ?_
  rintro e w3_9 ⟨rfl, hcb⟩
  refine hK.out _ _ (⟨hS.1.below hcb hS.1.lt, hS.2.trans (hcb.mono hS.2.size)⟩) fun hS => ?_
  try simp only [Act.put, List.getElem_toArray, List.getElem_cons_zero, List.getElem_cons_succ, List.setIfInBounds_toArray, List.set_cons_zero, List.set_cons_succ]
  clear hcb
  refine wpAnyH_take (i := 10) (v := .string (strOfNums T)) rfl (by kernel_rfl) (by kernel_rfl) (by kernel_rfl) (fun _ _ _ h => h) (Or.inl ⟨by rfl, fun w _ => by go_simp⟩) hS ?_
  try simp only [Act.put, List.getElem_toArray, List.getElem_cons_zero, List.getElem_cons_succ, List.setIfInBounds_toArray, List.set_cons_zero, List.set_cons_succ]
  refine wpAnyH_take (i := 11) (v := .string (strOfNums T)) rfl (by kernel_rfl) (by kernel_rfl) (by kernel_rfl) (fun _ _ _ h => h) (Or.inl ⟨by rfl, fun w _ => by go_simp⟩) hS ?_
  try simp only [Act.put, List.getElem_toArray, List.getElem_cons_zero, List.getElem_cons_succ, List.setIfInBounds_toArray, List.set_cons_zero, List.set_cons_succ]
  refine wpAnyH_done (by kernel_rfl) ?_ _
  go_wp2
  go_ret
  exact ⟨by rw [HT.out]; rfl, hS.2⟩

set_option maxRecDepth 20000 in
set_option maxHeartbeats 4000000 in
theorem fields_2 (r : R) (w : World) (hf : r.Fits) (hd : r.delta.size ≤ 66) (ho : r.old.delta.size ≤ 66) (hk : r.kind = 2) :
    Calls Try.prog 19 #[.agg r.arr] w fun e w' => e = .returned (.string (strOfNums (fldT r))) ∧ Below w.heap.size w w' := by
  have y0 : Row (w.alloc (.cells r.arr 33)) w.heap.size r.arr 33 := Row.new _ _ _
  have yb : Below w.heap.size w (w.alloc (.cells r.arr 33)) := (Below.refl _ _).alloc (Nat.le_refl _) _
  have f1 := hf.no
  have f2 := hf.ts
  have f3 := hf.slot
  obtain ⟨L1, H1⟩ : ∃ L, Hid (low r.no 2 = L) := ⟨_, rfl⟩
  obtain ⟨L2, H2⟩ : ∃ L, Hid (low r.ts 4 = L) := ⟨_, rfl⟩
  have P1 : Hid _ := put_at r.no 2 L1 H1.out (by omega) (by omega) (by decide)
  have P2 : Hid _ := put_at r.ts 4 L2 H2.out (by omega) (by omega) (by decide)
  have z1 : (strOfNums L1).size = 2 := by rw [strOfNums_size, ← H1.out, low_length]
  have z2 : (strOfNums L2).size = 4 := by rw [strOfNums_size, ← H2.out, low_length]
  have e1 : IntKind.u64.wrap r.no = r.no := by rw [IntKind.wrap_u64]; omega
  have e2 : IntKind.u64.wrap r.ts = r.ts := by rw [IntKind.wrap_u64]; omega
  have e3 : IntKind.u64.wrap r.slot = r.slot := by rw [IntKind.wrap_u64]; omega
  obtain ⟨L3, H3⟩ : ∃ L, Hid (refT r.pp r.ps = L) := ⟨_, rfl⟩
  obtain ⟨L4, H4⟩ : ∃ L, Hid (sizeT r.delta = L) := ⟨_, rfl⟩
  obtain ⟨A1, HA1⟩ : ∃ L, Hid (L1 ++ L2 = L) := ⟨_, rfl⟩
  obtain ⟨A2, HA2⟩ : ∃ L, Hid (A1 ++ L3 = L) := ⟨_, rfl⟩
  have P3 : Hid _ := fun w => ref_any r.pp r.ps w hf.pp hf.ps
  have P4 : Hid _ := fun w => sized_any r.delta w (by omega)
  rw [H3.out] at P3
  rw [H4.out] at P4
  have z3 : (strOfNums L3).size = 3 := by rw [strOfNums_size, ← H3.out, refT_length]
  have z4 : (strOfNums L4).size ≤ 1000001 := by rw [strOfNums_size, ← H4.out]; unfold sizeT; rw [List.length_append, low_length, nums_length]; omega
  have t1 : strOfNums L1 ++ strOfNums L2 = strOfNums A1 := by rw [tx_app, HA1.out]
  have y1 : (strOfNums A1).size = 6 := by rw [← t1, ByteArray.size_append, z1, z2]
  have t2 : strOfNums A1 ++ strOfNums L3 = strOfNums A2 := by rw [tx_app, HA2.out]
  have y2 : (strOfNums A2).size = 9 := by rw [← t2, ByteArray.size_append, y1, z3]
  obtain ⟨T, HT⟩ : ∃ T, Hid (fldT r = T) := ⟨_, rfl⟩
  have t3 : strOfNums A2 ++ strOfNums L4 = strOfNums T := by rw [tx_app, ← HA2.out, ← HA1.out, ← H4.out, ← H3.out, ← H2.out, ← H1.out, ← HT.out]; unfold fldT; rw [if_neg (by omega), if_pos hk]
  have s3 : ¬ (9 + (strOfNums L4).size) > 9223372036854775807 := by omega
  have t1 : (r.kind == 1) = false := by simp; omega
  have t2 : (r.kind == 2) = true := by simp [hk]
  clear hk
  have c0 := row_at y0 0 _ (R.at0 r)
  have c2 := row_at y0 2 _ (R.at2 r)
  have HY0 : Hid _ := y0
  go_enter Try.func19, Try.ntmps19
  go_upto_region 2 with (go_at_call 18; refine (P1.out _).mono ?_; clear P1; rintro ex w1 ⟨rfl, b1⟩; have y1 := y0.below b1 y0.lt; have yb1 := yb.trans (b1.mono yb.size); have c3 := row_at y1 227 _ (R.atT r hf.len 0))
  clear y0 yb HY0 c0 c2
  go_upto_region 4 with (go_at_call 18; refine (P2.out _).mono ?_; clear P2; rintro ex w2 ⟨rfl, b2⟩; have y0 := y1.below b2 y1.lt; have yb := yb1.trans (b2.mono yb1.size); have c0 := row_at y0 0 _ (R.at0 r))
  clear y1 yb1 c3 b1 b2
  go_upto_region 11 with fail
  clear c0
  generalize w2 = ww at y0 yb ⊢
  refine wp_region_held_drew (S := fun w' => Row w' w.heap.size r.arr 33 ∧ Below w.heap.size w w') (by kernel_rfl) ⟨y0, yb.drew⟩ fun hS => ?_
  clear y0 yb
  refine wpAnyH_take (i := 0) (v := .string (strOfNums L1)) rfl (by kernel_rfl) (by kernel_rfl) (by kernel_rfl) (fun _ _ _ h => h) (Or.inl ⟨by rfl, fun w _ => by go_simp⟩) hS ?_
  try simp only [Act.put, List.getElem_toArray, List.getElem_cons_zero, List.getElem_cons_succ, List.setIfInBounds_toArray, List.set_cons_zero, List.set_cons_succ]
  refine wpAnyH_take (i := 1) (v := .string (strOfNums L2)) rfl (by kernel_rfl) (by kernel_rfl) (by kernel_rfl) (fun _ _ _ h => h) (Or.inl ⟨by rfl, fun w _ => by go_simp⟩) hS ?_
  try simp only [Act.put, List.getElem_toArray, List.getElem_cons_zero, List.getElem_cons_succ, List.setIfInBounds_toArray, List.set_cons_zero, List.set_cons_succ]
  refine wpAnyH_take (i := 2) (v := .string (strOfNums A1)) rfl (by kernel_rfl) (by kernel_rfl) (by kernel_rfl) (fun _ _ _ h => h) (Or.inl ⟨by rfl, fun w _ => by go_simp⟩) hS ?_
  try simp only [Act.put, List.getElem_toArray, List.getElem_cons_zero, List.getElem_cons_succ, List.setIfInBounds_toArray, List.set_cons_zero, List.set_cons_succ]
  refine wpAnyH_take (i := 3) (v := .pointer (some ⟨w.heap.size, 228, none⟩)) rfl (by kernel_rfl) (by kernel_rfl) (by kernel_rfl) (fun _ _ _ h => h) (Or.inl ⟨by rfl, fun w _ => by go_simp⟩) hS ?_
  try simp only [Act.put, List.getElem_toArray, List.getElem_cons_zero, List.getElem_cons_succ, List.setIfInBounds_toArray, List.set_cons_zero, List.set_cons_succ]
  refine wpAnyH_take (i := 4) (v := .agg #[.int .u16 r.pp, .int .u8 r.ps]) rfl (by kernel_rfl) (by kernel_rfl) (by kernel_rfl) (fun _ _ _ h => h) (Or.inl ⟨by rfl, fun w h => by have c1 := row_at h.1 228 _ (R.atT r hf.len 1); have c2 := row_at h.1 229 _ (R.atT r hf.len 2); go_simp⟩) hS ?_
  try simp only [Act.put, List.getElem_toArray, List.getElem_cons_zero, List.getElem_cons_succ, List.setIfInBounds_toArray, List.set_cons_zero, List.set_cons_succ]
  refine wpAnyH_take (i := 7) (v := .pointer (some ⟨w.heap.size, 230, none⟩)) rfl (by kernel_rfl) (by kernel_rfl) (by kernel_rfl) (fun _ _ _ h => h) (Or.inl ⟨by rfl, fun w _ => by go_simp⟩) hS ?_
  try simp only [Act.put, List.getElem_toArray, List.getElem_cons_zero, List.getElem_cons_succ, List.setIfInBounds_toArray, List.set_cons_zero, List.set_cons_succ]
  refine wpAnyH_take (i := 8) (v := .string r.delta) rfl (by kernel_rfl) (by kernel_rfl) (by kernel_rfl) (fun _ _ _ h => h) (Or.inl ⟨by rfl, fun w h => by have c := row_at h.1 230 _ (R.atT r hf.len 3); go_simp⟩) hS ?_
  try simp only [Act.put, List.getElem_toArray, List.getElem_cons_zero, List.getElem_cons_succ, List.setIfInBounds_toArray, List.set_cons_zero, List.set_cons_succ]
  refine wpAnyH_ready (rs := [5]) (by kernel_rfl) (by simp) ?_
  refine AllReadyH.cons rfl (fun K hK => ?_) AllReadyH.nil
  go_simp
  go_at_call 43
  refine Calls.mono (P3.out _) ?_
  rintro e wc ⟨rfl, hcb⟩
  refine hK.out _ _ (⟨hS.1.below hcb hS.1.lt, hS.2.trans (hcb.mono hS.2.size)⟩) fun hS => ?_
  try simp only [Act.put, List.getElem_toArray, List.getElem_cons_zero, List.getElem_cons_succ, List.setIfInBounds_toArray, List.set_cons_zero, List.set_cons_succ]
  clear hcb
  refine wpAnyH_take (i := 6) (v := .string (strOfNums A2)) rfl (by kernel_rfl) (by kernel_rfl) (by kernel_rfl) (fun _ _ _ h => h) (Or.inl ⟨by rfl, fun w _ => by go_simp⟩) hS ?_
  try simp only [Act.put, List.getElem_toArray, List.getElem_cons_zero, List.getElem_cons_succ, List.setIfInBounds_toArray, List.set_cons_zero, List.set_cons_succ]
  refine wpAnyH_ready (rs := [9]) (by kernel_rfl) (by simp) ?_
  refine AllReadyH.cons rfl (fun K hK => ?_) AllReadyH.nil
  go_simp
  go_at_call 41
  refine Calls.mono (P4.out _) ?_
  rintro e w2_9 ⟨rfl, hcb⟩
  refine hK.out _ _ (⟨hS.1.below hcb hS.1.lt, hS.2.trans (hcb.mono hS.2.size)⟩) fun hS => ?_
  try simp only [Act.put, List.getElem_toArray, List.getElem_cons_zero, List.getElem_cons_succ, List.setIfInBounds_toArray, List.set_cons_zero, List.set_cons_succ]
  clear hcb
  refine wpAnyH_take (i := 10) (v := .string (strOfNums T)) rfl (by kernel_rfl) (by kernel_rfl) (by kernel_rfl) (fun _ _ _ h => h) (Or.inl ⟨by rfl, fun w _ => by go_simp⟩) hS ?_
  try simp only [Act.put, List.getElem_toArray, List.getElem_cons_zero, List.getElem_cons_succ, List.setIfInBounds_toArray, List.set_cons_zero, List.set_cons_succ]
  refine wpAnyH_take (i := 11) (v := .string (strOfNums T)) rfl (by kernel_rfl) (by kernel_rfl) (by kernel_rfl) (fun _ _ _ h => h) (Or.inl ⟨by rfl, fun w _ => by go_simp⟩) hS ?_
  try simp only [Act.put, List.getElem_toArray, List.getElem_cons_zero, List.getElem_cons_succ, List.setIfInBounds_toArray, List.set_cons_zero, List.set_cons_succ]
  refine wpAnyH_done (by kernel_rfl) ?_ _
  go_wp2
  go_ret
  exact ⟨by rw [HT.out]; rfl, hS.2⟩

set_option maxRecDepth 20000 in
set_option maxHeartbeats 4000000 in
theorem fields_3 (r : R) (w : World) (hf : r.Fits) (hd : r.delta.size ≤ 66) (ho : r.old.delta.size ≤ 66) (hk : r.kind = 3) :
    Calls Try.prog 19 #[.agg r.arr] w fun e w' => e = .returned (.string (strOfNums (fldT r))) ∧ Below w.heap.size w w' := by
  have y0 : Row (w.alloc (.cells r.arr 33)) w.heap.size r.arr 33 := Row.new _ _ _
  have yb : Below w.heap.size w (w.alloc (.cells r.arr 33)) := (Below.refl _ _).alloc (Nat.le_refl _) _
  have f1 := hf.no
  have f2 := hf.ts
  have f3 := hf.slot
  obtain ⟨L1, H1⟩ : ∃ L, Hid (low r.no 2 = L) := ⟨_, rfl⟩
  obtain ⟨L2, H2⟩ : ∃ L, Hid (low r.ts 4 = L) := ⟨_, rfl⟩
  have P1 : Hid _ := put_at r.no 2 L1 H1.out (by omega) (by omega) (by decide)
  have P2 : Hid _ := put_at r.ts 4 L2 H2.out (by omega) (by omega) (by decide)
  have z1 : (strOfNums L1).size = 2 := by rw [strOfNums_size, ← H1.out, low_length]
  have z2 : (strOfNums L2).size = 4 := by rw [strOfNums_size, ← H2.out, low_length]
  have e1 : IntKind.u64.wrap r.no = r.no := by rw [IntKind.wrap_u64]; omega
  have e2 : IntKind.u64.wrap r.ts = r.ts := by rw [IntKind.wrap_u64]; omega
  have e3 : IntKind.u64.wrap r.slot = r.slot := by rw [IntKind.wrap_u64]; omega
  obtain ⟨L3, H3⟩ : ∃ L, Hid (low r.slot 1 = L) := ⟨_, rfl⟩
  obtain ⟨A1, HA1⟩ : ∃ L, Hid (L1 ++ L3 = L) := ⟨_, rfl⟩
  have P3 : Hid _ := put_at r.slot 1 L3 H3.out (by omega) (by omega) (by decide)
  have z3 : (strOfNums L3).size = 1 := by rw [strOfNums_size, ← H3.out, low_length]
  have t1 : strOfNums L1 ++ strOfNums L3 = strOfNums A1 := by rw [tx_app, HA1.out]
  have y1 : (strOfNums A1).size = 3 := by rw [← t1, ByteArray.size_append, z1, z3]
  obtain ⟨T, HT⟩ : ∃ T, Hid (fldT r = T) := ⟨_, rfl⟩
  obtain ⟨L4, H4⟩ : ∃ L, Hid (oldT r.old = L) := ⟨_, rfl⟩
  have P4 : Hid _ := fun w => old_any r.old w hf.old (by omega)
  rw [H4.out] at P4
  unfold O.arr at P4
  have z4 : (strOfNums L4).size ≤ 1000010 := by rw [strOfNums_size, ← H4.out]; unfold oldT sizeT; simp only [List.length_append, low_length, nums_length, refT_length]; omega
  have s3 : ¬ (3 + (strOfNums L4).size) > 9223372036854775807 := by omega
  have t2 : strOfNums A1 ++ strOfNums L4 = strOfNums T := by rw [tx_app, ← HA1.out, ← H4.out, ← H3.out, ← H1.out, ← HT.out]; unfold fldT; rw [if_neg (by omega), if_neg (by omega), if_pos hk]
  have t1 : (r.kind == 1) = false := by simp; omega
  have t2 : (r.kind == 2) = false := by simp; omega
  have t3 : (r.kind == 3) = true := by simp [hk]
  clear hk
  have c0 := row_at y0 0 _ (R.at0 r)
  have c2 := row_at y0 2 _ (R.at2 r)
  have HY0 : Hid _ := y0
  go_enter Try.func19, Try.ntmps19
  go_upto_region 2 with (go_at_call 18; refine (P1.out _).mono ?_; clear P1; rintro ex w1 ⟨rfl, b1⟩; have y1 := y0.below b1 y0.lt; have yb1 := yb.trans (b1.mono yb.size); have c3 := row_at y1 227 _ (R.atT r hf.len 0))
  clear y0 yb HY0 c0 c2
  go_upto_region 4 with (go_at_call 18; refine (P2.out _).mono ?_; clear P2; rintro ex w2 ⟨rfl, b2⟩; have y0 := y1.below b2 y1.lt; have yb := yb1.trans (b2.mono yb1.size); have c0 := row_at y0 0 _ (R.at0 r))
  clear y1 yb1 c3 b1 b2
  go_upto_region 12 with fail
  clear c0
  have d0 := row_at y0 232 _ (R.atT r hf.len 5)
  have d1 := row_at y0 233 _ (R.atT r hf.len 6)
  have d2 := row_at y0 234 _ (R.atT r hf.len 7)
  have d3 := row_at y0 235 _ (R.atT r hf.len 8)
  have d4 := row_at y0 236 _ (R.atT r hf.len 9)
  have d5 := row_at y0 237 _ (R.atT r hf.len 10)
  go_upto_region 13 with (go_at_call 44; refine (P4.out _).mono ?_; clear P4; rintro ex w3 ⟨rfl, b3⟩; have y5 := y0.below b3 y0.lt; have yb5 := yb.trans (b3.mono yb.size); have c4 := row_at y5 231 _ (R.atT r hf.len 4))
  clear d0 d1 d2 d3 d4 d5 y0 yb
  go_wp2_with (go_at_call 18; refine (P3.out _).mono ?_; clear P3; rintro ex w4 ⟨rfl, b4⟩)
  go_ret
  exact ⟨by rw [HT.out]; rfl, yb5.trans (b4.mono yb5.size)⟩

set_option maxRecDepth 20000 in
set_option maxHeartbeats 4000000 in
theorem fields_4 (r : R) (w : World) (hf : r.Fits) (hd : r.delta.size ≤ 66) (ho : r.old.delta.size ≤ 66) (hk : r.kind = 4) :
    Calls Try.prog 19 #[.agg r.arr] w fun e w' => e = .returned (.string (strOfNums (fldT r))) ∧ Below w.heap.size w w' := by
  have y0 : Row (w.alloc (.cells r.arr 33)) w.heap.size r.arr 33 := Row.new _ _ _
  have yb : Below w.heap.size w (w.alloc (.cells r.arr 33)) := (Below.refl _ _).alloc (Nat.le_refl _) _
  have f1 := hf.no
  have f2 := hf.ts
  have f3 := hf.slot
  obtain ⟨L1, H1⟩ : ∃ L, Hid (low r.no 2 = L) := ⟨_, rfl⟩
  obtain ⟨L2, H2⟩ : ∃ L, Hid (low r.ts 4 = L) := ⟨_, rfl⟩
  have P1 : Hid _ := put_at r.no 2 L1 H1.out (by omega) (by omega) (by decide)
  have P2 : Hid _ := put_at r.ts 4 L2 H2.out (by omega) (by omega) (by decide)
  have z1 : (strOfNums L1).size = 2 := by rw [strOfNums_size, ← H1.out, low_length]
  have z2 : (strOfNums L2).size = 4 := by rw [strOfNums_size, ← H2.out, low_length]
  have e1 : IntKind.u64.wrap r.no = r.no := by rw [IntKind.wrap_u64]; omega
  have e2 : IntKind.u64.wrap r.ts = r.ts := by rw [IntKind.wrap_u64]; omega
  have e3 : IntKind.u64.wrap r.slot = r.slot := by rw [IntKind.wrap_u64]; omega
  obtain ⟨L3, H3⟩ : ∃ L, Hid (low r.slot 1 = L) := ⟨_, rfl⟩
  obtain ⟨A1, HA1⟩ : ∃ L, Hid (L1 ++ L3 = L) := ⟨_, rfl⟩
  have P3 : Hid _ := put_at r.slot 1 L3 H3.out (by omega) (by omega) (by decide)
  have z3 : (strOfNums L3).size = 1 := by rw [strOfNums_size, ← H3.out, low_length]
  have t1 : strOfNums L1 ++ strOfNums L3 = strOfNums A1 := by rw [tx_app, HA1.out]
  have y1 : (strOfNums A1).size = 3 := by rw [← t1, ByteArray.size_append, z1, z3]
  obtain ⟨T, HT⟩ : ∃ T, Hid (fldT r = T) := ⟨_, rfl⟩
  have t2 : strOfNums A1 ++ { data := #[] } = strOfNums T := by
    have e : strOfNums [] = { data := #[] } := rfl
    rw [← e, tx_app, ← HA1.out, ← H3.out, ← H1.out, ← HT.out]; unfold fldT; rw [if_neg (by omega), if_neg (by omega), if_neg (by omega), if_pos (by omega), List.append_nil]
  have t1 : (r.kind == 1) = false := by simp; omega
  have t2 : (r.kind == 2) = false := by simp; omega
  have t3 : (r.kind == 3) = false := by simp; omega
  have t4 : (r.kind == 4) = true := by simp [hk]
  clear hk
  have c0 := row_at y0 0 _ (R.at0 r)
  have c2 := row_at y0 2 _ (R.at2 r)
  have HY0 : Hid _ := y0
  go_enter Try.func19, Try.ntmps19
  go_upto_region 2 with (go_at_call 18; refine (P1.out _).mono ?_; clear P1; rintro ex w1 ⟨rfl, b1⟩; have y1 := y0.below b1 y0.lt; have yb1 := yb.trans (b1.mono yb.size); have c3 := row_at y1 227 _ (R.atT r hf.len 0))
  clear y0 yb HY0 c0 c2
  go_upto_region 4 with (go_at_call 18; refine (P2.out _).mono ?_; clear P2; rintro ex w2 ⟨rfl, b2⟩; have y0 := y1.below b2 y1.lt; have yb := yb1.trans (b2.mono yb1.size); have c0 := row_at y0 0 _ (R.at0 r))
  clear y1 yb1 c3 b1 b2
  go_upto_region 13 with fail
  clear c0
  have c4 := row_at y0 231 _ (R.atT r hf.len 4)
  go_wp2_with (go_at_call 18; refine (P3.out _).mono ?_; clear P3; rintro ex w4 ⟨rfl, b4⟩)
  go_ret
  exact ⟨by rw [HT.out]; rfl, yb.trans (b4.mono yb.size)⟩

set_option maxRecDepth 20000 in
set_option maxHeartbeats 4000000 in
theorem fields_5 (r : R) (w : World) (hf : r.Fits) (hd : r.delta.size ≤ 66) (ho : r.old.delta.size ≤ 66) (hk : r.kind = 5) :
    Calls Try.prog 19 #[.agg r.arr] w fun e w' => e = .returned (.string (strOfNums (fldT r))) ∧ Below w.heap.size w w' := by
  have y0 : Row (w.alloc (.cells r.arr 33)) w.heap.size r.arr 33 := Row.new _ _ _
  have yb : Below w.heap.size w (w.alloc (.cells r.arr 33)) := (Below.refl _ _).alloc (Nat.le_refl _) _
  have f1 := hf.no
  have f2 := hf.ts
  have f3 := hf.slot
  obtain ⟨L1, H1⟩ : ∃ L, Hid (low r.no 2 = L) := ⟨_, rfl⟩
  obtain ⟨L2, H2⟩ : ∃ L, Hid (low r.ts 4 = L) := ⟨_, rfl⟩
  have P1 : Hid _ := put_at r.no 2 L1 H1.out (by omega) (by omega) (by decide)
  have P2 : Hid _ := put_at r.ts 4 L2 H2.out (by omega) (by omega) (by decide)
  have z1 : (strOfNums L1).size = 2 := by rw [strOfNums_size, ← H1.out, low_length]
  have z2 : (strOfNums L2).size = 4 := by rw [strOfNums_size, ← H2.out, low_length]
  have e1 : IntKind.u64.wrap r.no = r.no := by rw [IntKind.wrap_u64]; omega
  have e2 : IntKind.u64.wrap r.ts = r.ts := by rw [IntKind.wrap_u64]; omega
  have e3 : IntKind.u64.wrap r.slot = r.slot := by rw [IntKind.wrap_u64]; omega
  obtain ⟨L3, H3⟩ : ∃ L, Hid (low r.slot 1 = L) := ⟨_, rfl⟩
  obtain ⟨A1, HA1⟩ : ∃ L, Hid (L1 ++ L3 = L) := ⟨_, rfl⟩
  have P3 : Hid _ := put_at r.slot 1 L3 H3.out (by omega) (by omega) (by decide)
  have z3 : (strOfNums L3).size = 1 := by rw [strOfNums_size, ← H3.out, low_length]
  have t1 : strOfNums L1 ++ strOfNums L3 = strOfNums A1 := by rw [tx_app, HA1.out]
  have y1 : (strOfNums A1).size = 3 := by rw [← t1, ByteArray.size_append, z1, z3]
  obtain ⟨T, HT⟩ : ∃ T, Hid (fldT r = T) := ⟨_, rfl⟩
  have t2 : strOfNums A1 ++ { data := #[] } = strOfNums T := by
    have e : strOfNums [] = { data := #[] } := rfl
    rw [← e, tx_app, ← HA1.out, ← H3.out, ← H1.out, ← HT.out]; unfold fldT; rw [if_neg (by omega), if_neg (by omega), if_neg (by omega), if_pos (by omega), List.append_nil]
  have t1 : (r.kind == 1) = false := by simp; omega
  have t2 : (r.kind == 2) = false := by simp; omega
  have t3 : (r.kind == 3) = false := by simp; omega
  have t4 : (r.kind == 4) = false := by simp; omega
  have t5 : (r.kind == 5) = true := by simp [hk]
  clear hk
  have c0 := row_at y0 0 _ (R.at0 r)
  have c2 := row_at y0 2 _ (R.at2 r)
  have HY0 : Hid _ := y0
  go_enter Try.func19, Try.ntmps19
  go_upto_region 2 with (go_at_call 18; refine (P1.out _).mono ?_; clear P1; rintro ex w1 ⟨rfl, b1⟩; have y1 := y0.below b1 y0.lt; have yb1 := yb.trans (b1.mono yb.size); have c3 := row_at y1 227 _ (R.atT r hf.len 0))
  clear y0 yb HY0 c0 c2
  go_upto_region 4 with (go_at_call 18; refine (P2.out _).mono ?_; clear P2; rintro ex w2 ⟨rfl, b2⟩; have y0 := y1.below b2 y1.lt; have yb := yb1.trans (b2.mono yb1.size); have c0 := row_at y0 0 _ (R.at0 r))
  clear y1 yb1 c3 b1 b2
  go_upto_region 13 with fail
  clear c0
  have c4 := row_at y0 231 _ (R.atT r hf.len 4)
  go_wp2_with (go_at_call 18; refine (P3.out _).mono ?_; clear P3; rintro ex w4 ⟨rfl, b4⟩)
  go_ret
  exact ⟨by rw [HT.out]; rfl, yb.trans (b4.mono yb.size)⟩

set_option maxRecDepth 20000 in
set_option maxHeartbeats 4000000 in
theorem fields_no (r : R) (w : World) (hf : r.Fits) (hd : r.delta.size ≤ 66) (ho : r.old.delta.size ≤ 66) (hk : ¬ (1 ≤ r.kind ∧ r.kind ≤ 5)) :
    Calls Try.prog 19 #[.agg r.arr] w fun e w' => e = .returned (.string (strOfNums (fldT r))) ∧ Below w.heap.size w w' := by
  have y0 : Row (w.alloc (.cells r.arr 33)) w.heap.size r.arr 33 := Row.new _ _ _
  have yb : Below w.heap.size w (w.alloc (.cells r.arr 33)) := (Below.refl _ _).alloc (Nat.le_refl _) _
  have f1 := hf.no
  have f2 := hf.ts
  have f3 := hf.slot
  obtain ⟨L1, H1⟩ : ∃ L, Hid (low r.no 2 = L) := ⟨_, rfl⟩
  obtain ⟨L2, H2⟩ : ∃ L, Hid (low r.ts 4 = L) := ⟨_, rfl⟩
  have P1 : Hid _ := put_at r.no 2 L1 H1.out (by omega) (by omega) (by decide)
  have P2 : Hid _ := put_at r.ts 4 L2 H2.out (by omega) (by omega) (by decide)
  have z1 : (strOfNums L1).size = 2 := by rw [strOfNums_size, ← H1.out, low_length]
  have z2 : (strOfNums L2).size = 4 := by rw [strOfNums_size, ← H2.out, low_length]
  have e1 : IntKind.u64.wrap r.no = r.no := by rw [IntKind.wrap_u64]; omega
  have e2 : IntKind.u64.wrap r.ts = r.ts := by rw [IntKind.wrap_u64]; omega
  have e3 : IntKind.u64.wrap r.slot = r.slot := by rw [IntKind.wrap_u64]; omega
  have HT : Hid (fldT r = L2) := by show _ = _; unfold fldT; rw [if_neg (by omega), if_neg (by omega), if_neg (by omega), if_neg (by omega)]; exact H2.out
  have t1 : (r.kind == 1) = false := by simp; omega
  have t2 : (r.kind == 2) = false := by simp; omega
  have t3 : (r.kind == 3) = false := by simp; omega
  have t4 : (r.kind == 4) = false := by simp; omega
  have t5 : (r.kind == 5) = false := by simp; omega
  clear hk
  have c0 := row_at y0 0 _ (R.at0 r)
  have c2 := row_at y0 2 _ (R.at2 r)
  have HY0 : Hid _ := y0
  go_enter Try.func19, Try.ntmps19
  go_upto_region 2 with (go_at_call 18; refine (P1.out _).mono ?_; clear P1; rintro ex w1 ⟨rfl, b1⟩; have y1 := y0.below b1 y0.lt; have yb1 := yb.trans (b1.mono yb.size); have c3 := row_at y1 227 _ (R.atT r hf.len 0))
  clear y0 yb HY0 c0 c2
  go_upto_region 4 with (go_at_call 18; refine (P2.out _).mono ?_; clear P2; rintro ex w2 ⟨rfl, b2⟩; have y0 := y1.below b2 y1.lt; have yb := yb1.trans (b2.mono yb1.size); have c0 := row_at y0 0 _ (R.at0 r))
  clear y1 yb1 c3 b1 b2
  go_upto_region 14 with fail
  go_wp2
  go_ret
  exact ⟨by rw [HT.out]; rfl, yb⟩

theorem fields_any (r : R) (w : World) (hf : r.Fits) (hd : r.delta.size ≤ 66) (ho : r.old.delta.size ≤ 66) :
    Calls Try.prog 19 #[.agg r.arr] w fun e w' => e = .returned (.string (strOfNums (fldT r))) ∧ Below w.heap.size w w' := by
  by_cases h1 : r.kind = 1
  · exact fields_1 r w hf hd ho h1
  by_cases h2 : r.kind = 2
  · exact fields_2 r w hf hd ho h2
  by_cases h3 : r.kind = 3
  · exact fields_3 r w hf hd ho h3
  by_cases h4 : r.kind = 4
  · exact fields_4 r w hf hd ho h4
  by_cases h5 : r.kind = 5
  · exact fields_5 r w hf hd ho h5
  exact fields_no r w hf hd ho (by omega)
end Go.Proofs.Ytihjapfgllokgaa
