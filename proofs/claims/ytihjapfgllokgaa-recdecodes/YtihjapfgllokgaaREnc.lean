/-
  Proved here: the document's Encode: the bytes of a record that may be.
-/
import Derived.Test.YtihjapfgllokgaaRMay
namespace Go.Proofs.Ytihjapfgllokgaa
open Go.ChangeShapes Go.WideShapes Go.ChangeAt Go.RowKit
set_option linter.unusedVariables false
set_option linter.unusedSimpArgs false

theorem img_text {r : R} {w : World} {g N : Nat} {t : TypeId} {L : List Int} (hl : r.img.length = 224) (hN : N ≤ 224) (h : Row w g r.arr t) (hL : Hid (r.img.take N = L)) :
    (Go.convert 61 9 (.slice (some ⟨g, 3, none⟩) N 224)).run Try.prog w = .ok (.string (strOfNums L)) w := by
  have hlen : L.length = N := by rw [← hL.out, List.length_take]; omega
  refine run_convert_bytes_arg (P := Try.prog) w 61 5 Try.underlying61 Try.underlying5 g 3 N 224 L hlen ?_ 9 Try.underlying9
  intro i hi
  have hL' := hL.out
  subst hL'
  rw [row_at h (3 + i) _ (R.atI r hl i (by omega))]
  have e : (List.take N r.img).getD i 0 = r.img.getD i 0 := by simp only [List.getD]; rw [List.getElem?_take, if_pos (by omega)]
  rw [e]
theorem one_any (b : Int) (w : World) (hb : 0 ≤ b ∧ b ≤ 255) : Calls Try.prog 21 #[.int .i64 b] w fun e w' => e = .returned (.string (strOfNums [b])) ∧ Below w.heap.size w w' := by
  have h1 := one_string b w
  have e1 : IntKind.u8.wrap b = b := by rw [IntKind.wrap_u8]; omega
  have e2 : b % 256 = b := by omega
  have b0 : Below w.heap.size w (w.alloc (.cells #[.int .u8 b] 5)) := (Below.refl _ _).alloc (Nat.le_refl _) _
  go_enter Try.func21, Try.ntmps21
  go_wp2
  go_ret
  exact ⟨rfl, b0⟩
set_option maxRecDepth 20000 in
set_option maxHeartbeats 4000000 in
theorem renc_1t (r : R) (w : World) (hf : r.Fits) (hm : mayR r = true) (hk : r.kind = 1) (hu : r.undo = true) :
    Calls Try.prog 10 #[.agg r.arr] w fun e w' => e = .returned (.tuple #[.string (encS r), .bool (mayR r)]) ∧ Below w.heap.size w w' := by
  have y0 : Row (w.alloc (.cells r.arr 33)) w.heap.size r.arr 33 := Row.new _ _ _
  have yb : Below w.heap.size w (w.alloc (.cells r.arr 33)) := (Below.refl _ _).alloc (Nat.le_refl _) _
  have hs1 := R.arr_size r hf.len
  have HMY : Hid _ := fun w => rmay_any r w hf
  rw [rmay_is r, hm] at HMY
  have hd := mayR_deltas hm
  have HS : Hid (encS r = strOfNums (encT r)) := by show _ = _; unfold encS; rw [hm]; rfl
  have HM : Hid (mayR r = true) := hm
  have f0 := hf.kind
  have f1 := hf.no
  have f2 := hf.ts
  have f3 := hf.slot
  have f4 := hf.pp
  have f5 := hf.ps
  have PK : Hid _ := fun w => one_any r.kind w hf.kind
  have PN : Hid _ := rput_at r.no 2 _ rfl (by omega) (by omega) (by decide)
  have PF : Hid _ := fun w => one_any 1 w (by decide)
  obtain ⟨N, HN⟩ : ∃ N, Hid (imgN r.img 224 = N) := ⟨_, rfl⟩
  have hN : N ≤ 224 := by rw [← HN.out]; exact imgN_le _ _
  obtain ⟨A0, HA0⟩ : ∃ L, Hid ([r.kind] = L) := ⟨_, rfl⟩
  obtain ⟨F, HF⟩ : ∃ L, Hid (([1] : List Int) = L) := ⟨_, rfl⟩
  obtain ⟨N2, HN2⟩ : ∃ L, Hid (low r.no 2 = L) := ⟨_, rfl⟩
  obtain ⟨L1, HL1⟩ : ∃ L, Hid ([(N : Int)] = L) := ⟨_, rfl⟩
  obtain ⟨L2, HL2⟩ : ∃ L, Hid (imgT r.img = L) := ⟨_, rfl⟩
  obtain ⟨A1, HA1⟩ : ∃ L, Hid (A0 ++ F = L) := ⟨_, rfl⟩
  obtain ⟨A3, HA3⟩ : ∃ L, Hid (A1 ++ N2 = L) := ⟨_, rfl⟩
  obtain ⟨B1, HB1⟩ : ∃ L, Hid (L1 ++ L2 = L) := ⟨_, rfl⟩
  obtain ⟨T, HT⟩ : ∃ L, Hid (A3 ++ B1 = L) := ⟨_, rfl⟩
  rw [HA0.out] at PK
  rw [HN2.out] at PN
  rw [HF.out] at PF
  have P1 : Hid _ := fun w => one_any (N : Int) w (by omega)
  rw [HL1.out] at P1
  have HIT : Hid (imgT r.img = r.img.take N) := by show _ = _; unfold imgT; rw [HN.out]
  have hL2l : L2.length = N := by rw [← HL2.out, HIT.out, List.length_take]; have := hf.len; omega
  have HT2 : Hid (encT r = T) := by
    show _ = _
    rw [← HT.out, ← HA3.out, ← HB1.out, ← HA1.out, ← HA0.out, ← HF.out, ← HN2.out, ← HL1.out]
    unfold encT fldT
    rw [if_pos hk]
    unfold flagT sizeT
    rw [HL2.out, strOfNums_size, hL2l, nums_tx (by rw [← HL2.out]; exact imgT_bytes hf.img), low_one _ f0, low_one _ (by omega), hu]
    simp only [List.append_assoc]
    rfl
  rw [HT2.out] at HS
  have HTK : Hid (r.img.take N = L2) := by show _ = _; rw [← HIT.out]; exact HL2.out
  have tA1 : strOfNums A0 ++ strOfNums F = strOfNums A1 := by rw [tx_app, HA1.out]
  have tA3 : strOfNums A1 ++ strOfNums N2 = strOfNums A3 := by rw [tx_app, HA3.out]
  have tB1 : strOfNums L1 ++ strOfNums L2 = strOfNums B1 := by rw [tx_app, HB1.out]
  have tT : strOfNums A3 ++ strOfNums B1 = strOfNums T := by rw [tx_app, HT.out]
  have zA0 : (strOfNums A0).size = 1 := by rw [strOfNums_size]; rw [← HA0.out]; rfl
  have zF : (strOfNums F).size = 1 := by rw [strOfNums_size]; rw [← HF.out]; rfl
  have zN2 : (strOfNums N2).size = 2 := by rw [strOfNums_size]; rw [← HN2.out, low_length]
  have zL1 : (strOfNums L1).size = 1 := by rw [strOfNums_size]; rw [← HL1.out]; rfl
  have zL2 : (strOfNums L2).size = N := by rw [strOfNums_size]; exact hL2l
  have zA1 : (strOfNums A1).size = 2 := by rw [← tA1, ByteArray.size_append, zA0, zF]
  have zA3 : (strOfNums A3).size = 4 := by rw [← tA3, ByteArray.size_append, zA1, zN2]
  have zB1 : (strOfNums B1).size ≤ 225 := by rw [← tB1, ByteArray.size_append, zL1, zL2]; omega
  have s1 : ¬ (1 + N) > 9223372036854775807 := by omega
  have s2 : ¬ (4 + (strOfNums B1).size) > 9223372036854775807 := by omega
  have e1 : IntKind.u64.wrap r.no = r.no := by rw [IntKind.wrap_u64]; omega
  have e5 : IntKind.i64.wrap r.kind = r.kind := by rw [IntKind.wrap_i64]; omega
  have t1 : (r.kind == 1) = true := by simp [hk]
  have t6 : (r.kind != 6) = true := by simp; omega
  have u6 : (r.kind == 6) = false := by simp; omega
  clear hL2l HIT
  clear hm hk
  go_enter Try.func10, Try.ntmps10
  go_upto_region 1 with fail
  generalize w.alloc (.cells r.arr 33) = w1 at y0 yb ⊢
  go_upto_region 3 with (first
    | (refine load_cells rfl 33 (.tmp 1) rfl w.heap.size rfl 33 r.arr y0 238 Try.underlying33 rfl size33 hs1 ?_)
    | (go_at_call 20; refine (HMY.out _).mono ?_; clear HMY; rintro e w3 ⟨rfl, h3⟩; have y1 := y0.below h3 y0.lt; have yb1 := yb.trans (h3.mono yb.size); have c0 := row_at y1 0 _ (R.at0 r)))
  clear y0 yb h3
  go_upto_region 4 with (go_at_call 21; refine (PK.out _).mono ?_; clear PK; rintro e w4 ⟨rfl, h4⟩; have y0 := y1.below h4 y1.lt; have yb := yb1.trans (h4.mono yb1.size))
  clear y1 yb1 h4 c0
  have c0 := row_at y0 0 _ (R.at0 r)
  have c1 := row_at y0 1 _ (R.at1 r)
  rw [hu] at c1
  go_upto_region 8 with (go_at_call 21; refine (PF.out _).mono ?_; clear PF; rintro e w5 ⟨rfl, h5⟩; have y1 := y0.below h5 y0.lt; have yb1 := yb.trans (h5.mono yb.size))
  clear y0 yb h5 c0 c1
  have d0 := row_at y1 0 _ (R.at0 r)
  have d2 := row_at y1 2 _ (R.at2 r)
  go_upto_region 10 with (go_at_call 22; refine (PN.out _).mono ?_; clear PN; rintro e w6 ⟨rfl, h6⟩; have y0 := y1.below h6 y1.lt; have yb := yb1.trans (h6.mono yb1.size); have c0 := row_at y0 0 _ (R.at0 r))
  clear y1 yb1 h6 d0 d2
  go_upto_region 14 with fail
  clear c0
  generalize w6 = ww at y0 yb ⊢
  go_loopw [5, 6] (fun x5 x6 wr => ∃ (i : Nat) (n : Nat), x5 = .int .i64 n ∧ x6 = .int .i64 i ∧ i ≤ 224 ∧ Hid (imgN r.img i = n) ∧ wr = ww) (fun _ x6 _ => 224 - (intOf x6).toNat)
  case atStart => exact ⟨0, 0, rfl, rfl, by omega, rfl, rfl⟩
  case round =>
    obtain ⟨i, n, rfl, rfl, hi, HI, rfl⟩ := hrel
    by_cases hin : i < 224
    · have hin' : (i : Int) < 224 := by omega
      have ci := row_at y0 (3 + i) _ (R.atI r hf.len i hin)
      by_cases hz : r.img.getD i 0 = 0
      · have HI2 : Hid (imgN r.img (i + 1) = n) := by show _ = _; rw [← HI.out]; show (if _ then _ else _) = _; rw [if_pos hz]
        obtain ⟨x, HX⟩ : ∃ x, Hid (r.img.getD i 0 = x) := ⟨_, rfl⟩
        rw [HX.out] at ci hz
        subst hz
        clear HX
        go_wp2
        go_roundw
        case rel => exact ⟨i + 1, n, rfl, by go_num, by omega, HI2, trivial⟩
        case measure => simp [intOf]; omega
      · have HI2 : Hid (imgN r.img (i + 1) = i + 1) := by show _ = _; show (if _ then _ else _) = _; rw [if_neg hz]
        obtain ⟨x, HX⟩ : ∃ x, Hid (r.img.getD i 0 = x) := ⟨_, rfl⟩
        rw [HX.out] at ci hz
        have hz' : (x != 0) = true := by simpa using hz
        clear HX
        go_wp2
        go_roundw
        case rel => exact ⟨i + 1, i + 1, by go_num, by go_num, by omega, HI2, trivial⟩
        case measure => simp [intOf]; omega
    · obtain rfl : i = 224 := by omega
      have hin' : ¬ ((224 : Nat) : Int) < 224 := by omega
      obtain rfl : N = n := by rw [← HN.out, HI.out]
      have hNc : (N : Int) ≤ 224 := by omega
      go_upto_region 18 with fail
      refine wp_region_held_drew (S := fun w' => Row w' w.heap.size r.arr 33 ∧ Below w.heap.size w w') (by kernel_rfl) ⟨y0, yb.drew⟩ fun hS => ?_
      clear y0 yb
      refine wpAnyH_take (i := 0) (v := .string (strOfNums A3)) rfl (by kernel_rfl) (by kernel_rfl) (by kernel_rfl) (fun _ _ _ h => h) (Or.inl ⟨by rfl, fun w _ => by go_simp⟩) hS ?_
      try simp only [Act.put, List.getElem_toArray, List.getElem_cons_zero, List.getElem_cons_succ, List.setIfInBounds_toArray, List.set_cons_zero, List.set_cons_succ]
      refine wpAnyH_take (i := 1) (v := .int .i64 (N : Nat)) rfl (by kernel_rfl) (by kernel_rfl) (by kernel_rfl) (fun _ _ _ h => h) (Or.inl ⟨by rfl, fun w _ => by go_simp⟩) hS ?_
      try simp only [Act.put, List.getElem_toArray, List.getElem_cons_zero, List.getElem_cons_succ, List.setIfInBounds_toArray, List.set_cons_zero, List.set_cons_succ]
      refine wpAnyH_take (i := 3) (v := .pointer (some ⟨w.heap.size, 3, none⟩)) rfl (by kernel_rfl) (by kernel_rfl) (by kernel_rfl) (fun _ _ _ h => h) (Or.inl ⟨by rfl, fun w _ => by go_simp⟩) hS ?_
      try simp only [Act.put, List.getElem_toArray, List.getElem_cons_zero, List.getElem_cons_succ, List.setIfInBounds_toArray, List.set_cons_zero, List.set_cons_succ]
      refine wpAnyH_take (i := 4) (v := .int .i64 (N : Nat)) rfl (by kernel_rfl) (by kernel_rfl) (by kernel_rfl) (fun _ _ _ h => h) (Or.inl ⟨by rfl, fun w _ => by go_simp⟩) hS ?_
      try simp only [Act.put, List.getElem_toArray, List.getElem_cons_zero, List.getElem_cons_succ, List.setIfInBounds_toArray, List.set_cons_zero, List.set_cons_succ]
      refine wpAnyH_take (i := 5) (v := .slice (some ⟨w.heap.size, 3, none⟩) N 224) rfl (by kernel_rfl) (by kernel_rfl) (by kernel_rfl) (fun _ _ _ h => h) (Or.inl ⟨by rfl, fun w _ => by go_simp⟩) hS ?_
      try simp only [Act.put, List.getElem_toArray, List.getElem_cons_zero, List.getElem_cons_succ, List.setIfInBounds_toArray, List.set_cons_zero, List.set_cons_succ]
      refine wpAnyH_take (i := 6) (v := .string (strOfNums L2)) rfl (by kernel_rfl) (by kernel_rfl) (by kernel_rfl) (fun _ _ _ h => h) (Or.inl ⟨by rfl, fun w h => by have c := img_text hf.len hN h.1 HTK; go_simp⟩) hS ?_
      try simp only [Act.put, List.getElem_toArray, List.getElem_cons_zero, List.getElem_cons_succ, List.setIfInBounds_toArray, List.set_cons_zero, List.set_cons_succ]
      refine wpAnyH_ready (rs := [2]) (by kernel_rfl) (by simp) ?_
      refine AllReadyH.cons rfl (fun K hK => ?_) AllReadyH.nil
      go_simp
      go_at_call 21
      refine Calls.mono (P1.out _) ?_
      rintro e wc ⟨rfl, hcb⟩
      refine hK.out _ _ (⟨hS.1.below hcb hS.1.lt, hS.2.trans (hcb.mono hS.2.size)⟩) fun hS => ?_
      try simp only [Act.put, List.getElem_toArray, List.getElem_cons_zero, List.getElem_cons_succ, List.setIfInBounds_toArray, List.set_cons_zero, List.set_cons_succ]
      clear hcb
      refine wpAnyH_take (i := 7) (v := .string (strOfNums B1)) rfl (by kernel_rfl) (by kernel_rfl) (by kernel_rfl) (fun _ _ _ h => h) (Or.inl ⟨by rfl, fun w _ => by go_simp⟩) hS ?_
      try simp only [Act.put, List.getElem_toArray, List.getElem_cons_zero, List.getElem_cons_succ, List.setIfInBounds_toArray, List.set_cons_zero, List.set_cons_succ]
      refine wpAnyH_take (i := 8) (v := .string (strOfNums T)) rfl (by kernel_rfl) (by kernel_rfl) (by kernel_rfl) (fun _ _ _ h => h) (Or.inl ⟨by rfl, fun w _ => by go_simp⟩) hS ?_
      try simp only [Act.put, List.getElem_toArray, List.getElem_cons_zero, List.getElem_cons_succ, List.setIfInBounds_toArray, List.set_cons_zero, List.set_cons_succ]
      refine wpAnyH_take (i := 9) (v := .string (strOfNums T)) rfl (by kernel_rfl) (by kernel_rfl) (by kernel_rfl) (fun _ _ _ h => h) (Or.inl ⟨by rfl, fun w _ => by go_simp⟩) hS ?_
      try simp only [Act.put, List.getElem_toArray, List.getElem_cons_zero, List.getElem_cons_succ, List.setIfInBounds_toArray, List.set_cons_zero, List.set_cons_succ]
      refine wpAnyH_done (by kernel_rfl) ?_ _
      go_wp2
      go_ret2
      exact ⟨by rw [HS.out, HM.out]; rfl, hS.2⟩

set_option maxRecDepth 20000 in
set_option maxHeartbeats 4000000 in
theorem renc_1f (r : R) (w : World) (hf : r.Fits) (hm : mayR r = true) (hk : r.kind = 1) (hu : r.undo = false) :
    Calls Try.prog 10 #[.agg r.arr] w fun e w' => e = .returned (.tuple #[.string (encS r), .bool (mayR r)]) ∧ Below w.heap.size w w' := by
  have y0 : Row (w.alloc (.cells r.arr 33)) w.heap.size r.arr 33 := Row.new _ _ _
  have yb : Below w.heap.size w (w.alloc (.cells r.arr 33)) := (Below.refl _ _).alloc (Nat.le_refl _) _
  have hs1 := R.arr_size r hf.len
  have HMY : Hid _ := fun w => rmay_any r w hf
  rw [rmay_is r, hm] at HMY
  have hd := mayR_deltas hm
  have HS : Hid (encS r = strOfNums (encT r)) := by show _ = _; unfold encS; rw [hm]; rfl
  have HM : Hid (mayR r = true) := hm
  have f0 := hf.kind
  have f1 := hf.no
  have f2 := hf.ts
  have f3 := hf.slot
  have f4 := hf.pp
  have f5 := hf.ps
  have PK : Hid _ := fun w => one_any r.kind w hf.kind
  have PN : Hid _ := rput_at r.no 2 _ rfl (by omega) (by omega) (by decide)
  have PF : Hid _ := fun w => one_any 0 w (by decide)
  obtain ⟨N, HN⟩ : ∃ N, Hid (imgN r.img 224 = N) := ⟨_, rfl⟩
  have hN : N ≤ 224 := by rw [← HN.out]; exact imgN_le _ _
  obtain ⟨A0, HA0⟩ : ∃ L, Hid ([r.kind] = L) := ⟨_, rfl⟩
  obtain ⟨F, HF⟩ : ∃ L, Hid (([0] : List Int) = L) := ⟨_, rfl⟩
  obtain ⟨N2, HN2⟩ : ∃ L, Hid (low r.no 2 = L) := ⟨_, rfl⟩
  obtain ⟨L1, HL1⟩ : ∃ L, Hid ([(N : Int)] = L) := ⟨_, rfl⟩
  obtain ⟨L2, HL2⟩ : ∃ L, Hid (imgT r.img = L) := ⟨_, rfl⟩
  obtain ⟨A1, HA1⟩ : ∃ L, Hid (A0 ++ F = L) := ⟨_, rfl⟩
  obtain ⟨A3, HA3⟩ : ∃ L, Hid (A1 ++ N2 = L) := ⟨_, rfl⟩
  obtain ⟨B1, HB1⟩ : ∃ L, Hid (L1 ++ L2 = L) := ⟨_, rfl⟩
  obtain ⟨T, HT⟩ : ∃ L, Hid (A3 ++ B1 = L) := ⟨_, rfl⟩
  rw [HA0.out] at PK
  rw [HN2.out] at PN
  rw [HF.out] at PF
  have P1 : Hid _ := fun w => one_any (N : Int) w (by omega)
  rw [HL1.out] at P1
  have HIT : Hid (imgT r.img = r.img.take N) := by show _ = _; unfold imgT; rw [HN.out]
  have hL2l : L2.length = N := by rw [← HL2.out, HIT.out, List.length_take]; have := hf.len; omega
  have HT2 : Hid (encT r = T) := by
    show _ = _
    rw [← HT.out, ← HA3.out, ← HB1.out, ← HA1.out, ← HA0.out, ← HF.out, ← HN2.out, ← HL1.out]
    unfold encT fldT
    rw [if_pos hk]
    unfold flagT sizeT
    rw [HL2.out, strOfNums_size, hL2l, nums_tx (by rw [← HL2.out]; exact imgT_bytes hf.img), low_one _ f0, low_one _ (by omega), hu]
    simp only [List.append_assoc]
    rfl
  rw [HT2.out] at HS
  have HTK : Hid (r.img.take N = L2) := by show _ = _; rw [← HIT.out]; exact HL2.out
  have tA1 : strOfNums A0 ++ strOfNums F = strOfNums A1 := by rw [tx_app, HA1.out]
  have tA3 : strOfNums A1 ++ strOfNums N2 = strOfNums A3 := by rw [tx_app, HA3.out]
  have tB1 : strOfNums L1 ++ strOfNums L2 = strOfNums B1 := by rw [tx_app, HB1.out]
  have tT : strOfNums A3 ++ strOfNums B1 = strOfNums T := by rw [tx_app, HT.out]
  have zA0 : (strOfNums A0).size = 1 := by rw [strOfNums_size]; rw [← HA0.out]; rfl
  have zF : (strOfNums F).size = 1 := by rw [strOfNums_size]; rw [← HF.out]; rfl
  have zN2 : (strOfNums N2).size = 2 := by rw [strOfNums_size]; rw [← HN2.out, low_length]
  have zL1 : (strOfNums L1).size = 1 := by rw [strOfNums_size]; rw [← HL1.out]; rfl
  have zL2 : (strOfNums L2).size = N := by rw [strOfNums_size]; exact hL2l
  have zA1 : (strOfNums A1).size = 2 := by rw [← tA1, ByteArray.size_append, zA0, zF]
  have zA3 : (strOfNums A3).size = 4 := by rw [← tA3, ByteArray.size_append, zA1, zN2]
  have zB1 : (strOfNums B1).size ≤ 225 := by rw [← tB1, ByteArray.size_append, zL1, zL2]; omega
  have s1 : ¬ (1 + N) > 9223372036854775807 := by omega
  have s2 : ¬ (4 + (strOfNums B1).size) > 9223372036854775807 := by omega
  have e1 : IntKind.u64.wrap r.no = r.no := by rw [IntKind.wrap_u64]; omega
  have e5 : IntKind.i64.wrap r.kind = r.kind := by rw [IntKind.wrap_i64]; omega
  have t1 : (r.kind == 1) = true := by simp [hk]
  have t6 : (r.kind != 6) = true := by simp; omega
  have u6 : (r.kind == 6) = false := by simp; omega
  clear hL2l HIT
  clear hm hk
  go_enter Try.func10, Try.ntmps10
  go_upto_region 1 with fail
  generalize w.alloc (.cells r.arr 33) = w1 at y0 yb ⊢
  go_upto_region 3 with (first
    | (refine load_cells rfl 33 (.tmp 1) rfl w.heap.size rfl 33 r.arr y0 238 Try.underlying33 rfl size33 hs1 ?_)
    | (go_at_call 20; refine (HMY.out _).mono ?_; clear HMY; rintro e w3 ⟨rfl, h3⟩; have y1 := y0.below h3 y0.lt; have yb1 := yb.trans (h3.mono yb.size); have c0 := row_at y1 0 _ (R.at0 r)))
  clear y0 yb h3
  go_upto_region 4 with (go_at_call 21; refine (PK.out _).mono ?_; clear PK; rintro e w4 ⟨rfl, h4⟩; have y0 := y1.below h4 y1.lt; have yb := yb1.trans (h4.mono yb1.size))
  clear y1 yb1 h4 c0
  have c0 := row_at y0 0 _ (R.at0 r)
  have c1 := row_at y0 1 _ (R.at1 r)
  rw [hu] at c1
  go_upto_region 8 with (go_at_call 21; refine (PF.out _).mono ?_; clear PF; rintro e w5 ⟨rfl, h5⟩; have y1 := y0.below h5 y0.lt; have yb1 := yb.trans (h5.mono yb.size))
  clear y0 yb h5 c0 c1
  have d0 := row_at y1 0 _ (R.at0 r)
  have d2 := row_at y1 2 _ (R.at2 r)
  go_upto_region 10 with (go_at_call 22; refine (PN.out _).mono ?_; clear PN; rintro e w6 ⟨rfl, h6⟩; have y0 := y1.below h6 y1.lt; have yb := yb1.trans (h6.mono yb1.size); have c0 := row_at y0 0 _ (R.at0 r))
  clear y1 yb1 h6 d0 d2
  go_upto_region 14 with fail
  clear c0
  generalize w6 = ww at y0 yb ⊢
  go_loopw [5, 6] (fun x5 x6 wr => ∃ (i : Nat) (n : Nat), x5 = .int .i64 n ∧ x6 = .int .i64 i ∧ i ≤ 224 ∧ Hid (imgN r.img i = n) ∧ wr = ww) (fun _ x6 _ => 224 - (intOf x6).toNat)
  case atStart => exact ⟨0, 0, rfl, rfl, by omega, rfl, rfl⟩
  case round =>
    obtain ⟨i, n, rfl, rfl, hi, HI, rfl⟩ := hrel
    by_cases hin : i < 224
    · have hin' : (i : Int) < 224 := by omega
      have ci := row_at y0 (3 + i) _ (R.atI r hf.len i hin)
      by_cases hz : r.img.getD i 0 = 0
      · have HI2 : Hid (imgN r.img (i + 1) = n) := by show _ = _; rw [← HI.out]; show (if _ then _ else _) = _; rw [if_pos hz]
        obtain ⟨x, HX⟩ : ∃ x, Hid (r.img.getD i 0 = x) := ⟨_, rfl⟩
        rw [HX.out] at ci hz
        subst hz
        clear HX
        go_wp2
        go_roundw
        case rel => exact ⟨i + 1, n, rfl, by go_num, by omega, HI2, trivial⟩
        case measure => simp [intOf]; omega
      · have HI2 : Hid (imgN r.img (i + 1) = i + 1) := by show _ = _; show (if _ then _ else _) = _; rw [if_neg hz]
        obtain ⟨x, HX⟩ : ∃ x, Hid (r.img.getD i 0 = x) := ⟨_, rfl⟩
        rw [HX.out] at ci hz
        have hz' : (x != 0) = true := by simpa using hz
        clear HX
        go_wp2
        go_roundw
        case rel => exact ⟨i + 1, i + 1, by go_num, by go_num, by omega, HI2, trivial⟩
        case measure => simp [intOf]; omega
    · obtain rfl : i = 224 := by omega
      have hin' : ¬ ((224 : Nat) : Int) < 224 := by omega
      obtain rfl : N = n := by rw [← HN.out, HI.out]
      have hNc : (N : Int) ≤ 224 := by omega
      go_upto_region 18 with fail
      refine wp_region_held_drew (S := fun w' => Row w' w.heap.size r.arr 33 ∧ Below w.heap.size w w') (by kernel_rfl) ⟨y0, yb.drew⟩ fun hS => ?_
      clear y0 yb
      refine wpAnyH_take (i := 0) (v := .string (strOfNums A3)) rfl (by kernel_rfl) (by kernel_rfl) (by kernel_rfl) (fun _ _ _ h => h) (Or.inl ⟨by rfl, fun w _ => by go_simp⟩) hS ?_
      try simp only [Act.put, List.getElem_toArray, List.getElem_cons_zero, List.getElem_cons_succ, List.setIfInBounds_toArray, List.set_cons_zero, List.set_cons_succ]
      refine wpAnyH_take (i := 1) (v := .int .i64 (N : Nat)) rfl (by kernel_rfl) (by kernel_rfl) (by kernel_rfl) (fun _ _ _ h => h) (Or.inl ⟨by rfl, fun w _ => by go_simp⟩) hS ?_
      try simp only [Act.put, List.getElem_toArray, List.getElem_cons_zero, List.getElem_cons_succ, List.setIfInBounds_toArray, List.set_cons_zero, List.set_cons_succ]
      refine wpAnyH_take (i := 3) (v := .pointer (some ⟨w.heap.size, 3, none⟩)) rfl (by kernel_rfl) (by kernel_rfl) (by kernel_rfl) (fun _ _ _ h => h) (Or.inl ⟨by rfl, fun w _ => by go_simp⟩) hS ?_
      try simp only [Act.put, List.getElem_toArray, List.getElem_cons_zero, List.getElem_cons_succ, List.setIfInBounds_toArray, List.set_cons_zero, List.set_cons_succ]
      refine wpAnyH_take (i := 4) (v := .int .i64 (N : Nat)) rfl (by kernel_rfl) (by kernel_rfl) (by kernel_rfl) (fun _ _ _ h => h) (Or.inl ⟨by rfl, fun w _ => by go_simp⟩) hS ?_
      try simp only [Act.put, List.getElem_toArray, List.getElem_cons_zero, List.getElem_cons_succ, List.setIfInBounds_toArray, List.set_cons_zero, List.set_cons_succ]
      refine wpAnyH_take (i := 5) (v := .slice (some ⟨w.heap.size, 3, none⟩) N 224) rfl (by kernel_rfl) (by kernel_rfl) (by kernel_rfl) (fun _ _ _ h => h) (Or.inl ⟨by rfl, fun w _ => by go_simp⟩) hS ?_
      try simp only [Act.put, List.getElem_toArray, List.getElem_cons_zero, List.getElem_cons_succ, List.setIfInBounds_toArray, List.set_cons_zero, List.set_cons_succ]
      refine wpAnyH_take (i := 6) (v := .string (strOfNums L2)) rfl (by kernel_rfl) (by kernel_rfl) (by kernel_rfl) (fun _ _ _ h => h) (Or.inl ⟨by rfl, fun w h => by have c := img_text hf.len hN h.1 HTK; go_simp⟩) hS ?_
      try simp only [Act.put, List.getElem_toArray, List.getElem_cons_zero, List.getElem_cons_succ, List.setIfInBounds_toArray, List.set_cons_zero, List.set_cons_succ]
      refine wpAnyH_ready (rs := [2]) (by kernel_rfl) (by simp) ?_
      refine AllReadyH.cons rfl (fun K hK => ?_) AllReadyH.nil
      go_simp
      go_at_call 21
      refine Calls.mono (P1.out _) ?_
      rintro e wc ⟨rfl, hcb⟩
      refine hK.out _ _ (⟨hS.1.below hcb hS.1.lt, hS.2.trans (hcb.mono hS.2.size)⟩) fun hS => ?_
      try simp only [Act.put, List.getElem_toArray, List.getElem_cons_zero, List.getElem_cons_succ, List.setIfInBounds_toArray, List.set_cons_zero, List.set_cons_succ]
      clear hcb
      refine wpAnyH_take (i := 7) (v := .string (strOfNums B1)) rfl (by kernel_rfl) (by kernel_rfl) (by kernel_rfl) (fun _ _ _ h => h) (Or.inl ⟨by rfl, fun w _ => by go_simp⟩) hS ?_
      try simp only [Act.put, List.getElem_toArray, List.getElem_cons_zero, List.getElem_cons_succ, List.setIfInBounds_toArray, List.set_cons_zero, List.set_cons_succ]
      refine wpAnyH_take (i := 8) (v := .string (strOfNums T)) rfl (by kernel_rfl) (by kernel_rfl) (by kernel_rfl) (fun _ _ _ h => h) (Or.inl ⟨by rfl, fun w _ => by go_simp⟩) hS ?_
      try simp only [Act.put, List.getElem_toArray, List.getElem_cons_zero, List.getElem_cons_succ, List.setIfInBounds_toArray, List.set_cons_zero, List.set_cons_succ]
      refine wpAnyH_take (i := 9) (v := .string (strOfNums T)) rfl (by kernel_rfl) (by kernel_rfl) (by kernel_rfl) (fun _ _ _ h => h) (Or.inl ⟨by rfl, fun w _ => by go_simp⟩) hS ?_
      try simp only [Act.put, List.getElem_toArray, List.getElem_cons_zero, List.getElem_cons_succ, List.setIfInBounds_toArray, List.set_cons_zero, List.set_cons_succ]
      refine wpAnyH_done (by kernel_rfl) ?_ _
      go_wp2
      go_ret2
      exact ⟨by rw [HS.out, HM.out]; rfl, hS.2⟩

set_option maxRecDepth 20000 in
set_option maxHeartbeats 4000000 in
theorem renc_2 (r : R) (w : World) (hf : r.Fits) (hm : mayR r = true) (hk : r.kind = 2) :
    Calls Try.prog 10 #[.agg r.arr] w fun e w' => e = .returned (.tuple #[.string (encS r), .bool (mayR r)]) ∧ Below w.heap.size w w' := by
  have y0 : Row (w.alloc (.cells r.arr 33)) w.heap.size r.arr 33 := Row.new _ _ _
  have yb : Below w.heap.size w (w.alloc (.cells r.arr 33)) := (Below.refl _ _).alloc (Nat.le_refl _) _
  have hs1 := R.arr_size r hf.len
  have HMY : Hid _ := fun w => rmay_any r w hf
  rw [rmay_is r, hm] at HMY
  have hd := mayR_deltas hm
  have HS : Hid (encS r = strOfNums (encT r)) := by show _ = _; unfold encS; rw [hm]; rfl
  have HM : Hid (mayR r = true) := hm
  have f0 := hf.kind
  have f1 := hf.no
  have f2 := hf.ts
  have f3 := hf.slot
  have f4 := hf.pp
  have f5 := hf.ps
  have PK : Hid _ := fun w => one_any r.kind w hf.kind
  have PN : Hid _ := rput_at r.no 2 _ rfl (by omega) (by omega) (by decide)
  obtain ⟨A0, HA0⟩ : ∃ L, Hid ([r.kind] = L) := ⟨_, rfl⟩
  obtain ⟨N2, HN2⟩ : ∃ L, Hid (low r.no 2 = L) := ⟨_, rfl⟩
  obtain ⟨L1, HL1⟩ : ∃ L, Hid (low r.ts 4 = L) := ⟨_, rfl⟩
  obtain ⟨L2, HL2⟩ : ∃ L, Hid (low r.pp 2 = L) := ⟨_, rfl⟩
  obtain ⟨L3, HL3⟩ : ∃ L, Hid ([r.ps] = L) := ⟨_, rfl⟩
  obtain ⟨L4, HL4⟩ : ∃ L, Hid ([(r.delta.size : Int)] = L) := ⟨_, rfl⟩
  obtain ⟨A2, HA2⟩ : ∃ L, Hid (A0 ++ N2 = L) := ⟨_, rfl⟩
  obtain ⟨B1, HB1⟩ : ∃ L, Hid (L1 ++ L2 = L) := ⟨_, rfl⟩
  obtain ⟨B2, HB2⟩ : ∃ L, Hid (B1 ++ L3 = L) := ⟨_, rfl⟩
  obtain ⟨B3, HB3⟩ : ∃ L, Hid (B2 ++ L4 = L) := ⟨_, rfl⟩
  obtain ⟨B4, HB4⟩ : ∃ L, Hid (B3 ++ nums r.delta = L) := ⟨_, rfl⟩
  obtain ⟨T, HT⟩ : ∃ L, Hid (A2 ++ B4 = L) := ⟨_, rfl⟩
  rw [HA0.out] at PK
  rw [HN2.out] at PN
  have P1 : Hid _ := rput_at r.ts 4 L1 HL1.out (by omega) (by omega) (by decide)
  have P2 : Hid _ := rput_at r.pp 2 L2 HL2.out (by omega) (by omega) (by decide)
  have P3 : Hid _ := fun w => one_any r.ps w hf.ps
  have P4 : Hid _ := fun w => one_any (r.delta.size : Int) w (by omega)
  rw [HL3.out] at P3
  rw [HL4.out] at P4
  have HT2 : Hid (encT r = T) := by
    show _ = _
    rw [← HT.out, ← HA2.out, ← HB4.out, ← HB3.out, ← HB2.out, ← HB1.out, ← HA0.out, ← HN2.out, ← HL1.out, ← HL2.out, ← HL3.out, ← HL4.out]
    unfold encT fldT
    rw [if_neg (by omega), if_pos hk]
    unfold refT sizeT
    rw [low_one _ f0, low_one _ f5, low_one _ (by omega)]
    simp only [List.append_assoc]
  rw [HT2.out] at HS
  have tA2 : strOfNums A0 ++ strOfNums N2 = strOfNums A2 := by rw [tx_app, HA2.out]
  have tB1 : strOfNums L1 ++ strOfNums L2 = strOfNums B1 := by rw [tx_app, HB1.out]
  have tB2 : strOfNums B1 ++ strOfNums L3 = strOfNums B2 := by rw [tx_app, HB2.out]
  have tB3 : strOfNums B2 ++ strOfNums L4 = strOfNums B3 := by rw [tx_app, HB3.out]
  have tT : strOfNums A2 ++ strOfNums B4 = strOfNums T := by rw [tx_app, HT.out]
  have tB4 : strOfNums B3 ++ r.delta = strOfNums B4 := by
    conv => lhs; rw [← tx_nums r.delta]
    rw [tx_app, HB4.out]
  have zA0 : (strOfNums A0).size = 1 := by rw [strOfNums_size]; rw [← HA0.out]; rfl
  have zN2 : (strOfNums N2).size = 2 := by rw [strOfNums_size]; rw [← HN2.out, low_length]
  have zL1 : (strOfNums L1).size = 4 := by rw [strOfNums_size]; rw [← HL1.out, low_length]
  have zL2 : (strOfNums L2).size = 2 := by rw [strOfNums_size]; rw [← HL2.out, low_length]
  have zL3 : (strOfNums L3).size = 1 := by rw [strOfNums_size]; rw [← HL3.out]; rfl
  have zL4 : (strOfNums L4).size = 1 := by rw [strOfNums_size]; rw [← HL4.out]; rfl
  have zA2 : (strOfNums A2).size = 3 := by rw [← tA2, ByteArray.size_append, zA0, zN2]
  have zB1 : (strOfNums B1).size = 6 := by rw [← tB1, ByteArray.size_append, zL1, zL2]
  have zB2 : (strOfNums B2).size = 7 := by rw [← tB2, ByteArray.size_append, zB1, zL3]
  have zB3 : (strOfNums B3).size = 8 := by rw [← tB3, ByteArray.size_append, zB2, zL4]
  have zB4 : (strOfNums B4).size ≤ 100 := by rw [← tB4, ByteArray.size_append, zB3]; omega
  have s1 : ¬ (8 + r.delta.size) > 9223372036854775807 := by omega
  have s2 : ¬ (3 + (strOfNums B4).size) > 9223372036854775807 := by omega
  have e1 : IntKind.u64.wrap r.no = r.no := by rw [IntKind.wrap_u64]; omega
  have e2 : IntKind.u64.wrap r.ts = r.ts := by rw [IntKind.wrap_u64]; omega
  have e3 : IntKind.u64.wrap r.pp = r.pp := by rw [IntKind.wrap_u64]; omega
  have e4 : IntKind.i64.wrap r.ps = r.ps := by rw [IntKind.wrap_i64]; omega
  have e5 : IntKind.i64.wrap r.kind = r.kind := by rw [IntKind.wrap_i64]; omega
  have t1 : (r.kind == 1) = false := by simp; omega
  have t2 : (r.kind == 2) = true := by simp [hk]
  have t6 : (r.kind != 6) = true := by simp; omega
  have u6 : (r.kind == 6) = false := by simp; omega
  clear hm hk
  go_enter Try.func10, Try.ntmps10
  go_upto_region 1 with fail
  generalize w.alloc (.cells r.arr 33) = w1 at y0 yb ⊢
  go_upto_region 3 with (first
    | (refine load_cells rfl 33 (.tmp 1) rfl w.heap.size rfl 33 r.arr y0 238 Try.underlying33 rfl size33 hs1 ?_)
    | (go_at_call 20; refine (HMY.out _).mono ?_; clear HMY; rintro e w3 ⟨rfl, h3⟩; have y1 := y0.below h3 y0.lt; have yb1 := yb.trans (h3.mono yb.size); have c0 := row_at y1 0 _ (R.at0 r)))
  clear y0 yb h3
  go_upto_region 4 with (go_at_call 21; refine (PK.out _).mono ?_; clear PK; rintro e w4 ⟨rfl, h4⟩; have y0 := y1.below h4 y1.lt; have yb := yb1.trans (h4.mono yb1.size))
  clear y1 yb1 h4 c0
  have c0 := row_at y0 0 _ (R.at0 r)
  have c2 := row_at y0 2 _ (R.at2 r)
  go_upto_region 10 with (go_at_call 22; refine (PN.out _).mono ?_; clear PN; rintro e w5 ⟨rfl, h5⟩; have y1 := y0.below h5 y0.lt; have yb1 := yb.trans (h5.mono yb.size); have d0 := row_at y1 0 _ (R.at0 r))
  clear y0 yb h5 c0 c2
  go_upto_region 20 with fail
  clear d0
  have y0 := y1
  have yb := yb1
  clear y1 yb1
  generalize w5 = ww at y0 yb ⊢
  refine wp_region_held_drew (S := fun w' => Row w' w.heap.size r.arr 33 ∧ Below w.heap.size w w') (by kernel_rfl) ⟨y0, yb.drew⟩ fun hS => ?_
  clear y0 yb
  refine wpAnyH_take (i := 0) (v := .string (strOfNums A2)) rfl (by kernel_rfl) (by kernel_rfl) (by kernel_rfl) (fun _ _ _ h => h) (Or.inl ⟨by rfl, fun w _ => by go_simp⟩) hS ?_
  try simp only [Act.put, List.getElem_toArray, List.getElem_cons_zero, List.getElem_cons_succ, List.setIfInBounds_toArray, List.set_cons_zero, List.set_cons_succ]
  refine wpAnyH_take (i := 1) (v := .pointer (some ⟨w.heap.size, 227, none⟩)) rfl (by kernel_rfl) (by kernel_rfl) (by kernel_rfl) (fun _ _ _ h => h) (Or.inl ⟨by rfl, fun w _ => by go_simp⟩) hS ?_
  try simp only [Act.put, List.getElem_toArray, List.getElem_cons_zero, List.getElem_cons_succ, List.setIfInBounds_toArray, List.set_cons_zero, List.set_cons_succ]
  refine wpAnyH_take (i := 2) (v := .int .u32 r.ts) rfl (by kernel_rfl) (by kernel_rfl) (by kernel_rfl) (fun _ _ _ h => h) (Or.inl ⟨by rfl, fun w h => by have c := row_at h.1 227 _ (R.atT r hf.len 0); go_simp⟩) hS ?_
  try simp only [Act.put, List.getElem_toArray, List.getElem_cons_zero, List.getElem_cons_succ, List.setIfInBounds_toArray, List.set_cons_zero, List.set_cons_succ]
  refine wpAnyH_take (i := 3) (v := .int .u64 r.ts) rfl (by kernel_rfl) (by kernel_rfl) (by kernel_rfl) (fun _ _ _ h => h) (Or.inl ⟨by rfl, fun w _ => by go_simp⟩) hS ?_
  try simp only [Act.put, List.getElem_toArray, List.getElem_cons_zero, List.getElem_cons_succ, List.setIfInBounds_toArray, List.set_cons_zero, List.set_cons_succ]
  refine wpAnyH_take (i := 5) (v := .pointer (some ⟨w.heap.size, 228, none⟩)) rfl (by kernel_rfl) (by kernel_rfl) (by kernel_rfl) (fun _ _ _ h => h) (Or.inl ⟨by rfl, fun w _ => by go_simp⟩) hS ?_
  try simp only [Act.put, List.getElem_toArray, List.getElem_cons_zero, List.getElem_cons_succ, List.setIfInBounds_toArray, List.set_cons_zero, List.set_cons_succ]
  refine wpAnyH_take (i := 6) (v := .pointer (some ⟨w.heap.size, 228, none⟩)) rfl (by kernel_rfl) (by kernel_rfl) (by kernel_rfl) (fun _ _ _ h => h) (Or.inl ⟨by rfl, fun w _ => by go_simp⟩) hS ?_
  try simp only [Act.put, List.getElem_toArray, List.getElem_cons_zero, List.getElem_cons_succ, List.setIfInBounds_toArray, List.set_cons_zero, List.set_cons_succ]
  refine wpAnyH_take (i := 7) (v := .int .u16 r.pp) rfl (by kernel_rfl) (by kernel_rfl) (by kernel_rfl) (fun _ _ _ h => h) (Or.inl ⟨by rfl, fun w h => by have c := row_at h.1 228 _ (R.atT r hf.len 1); go_simp⟩) hS ?_
  try simp only [Act.put, List.getElem_toArray, List.getElem_cons_zero, List.getElem_cons_succ, List.setIfInBounds_toArray, List.set_cons_zero, List.set_cons_succ]
  refine wpAnyH_take (i := 8) (v := .int .u64 r.pp) rfl (by kernel_rfl) (by kernel_rfl) (by kernel_rfl) (fun _ _ _ h => h) (Or.inl ⟨by rfl, fun w _ => by go_simp⟩) hS ?_
  try simp only [Act.put, List.getElem_toArray, List.getElem_cons_zero, List.getElem_cons_succ, List.setIfInBounds_toArray, List.set_cons_zero, List.set_cons_succ]
  refine wpAnyH_take (i := 11) (v := .pointer (some ⟨w.heap.size, 228, none⟩)) rfl (by kernel_rfl) (by kernel_rfl) (by kernel_rfl) (fun _ _ _ h => h) (Or.inl ⟨by rfl, fun w _ => by go_simp⟩) hS ?_
  try simp only [Act.put, List.getElem_toArray, List.getElem_cons_zero, List.getElem_cons_succ, List.setIfInBounds_toArray, List.set_cons_zero, List.set_cons_succ]
  refine wpAnyH_take (i := 12) (v := .pointer (some ⟨w.heap.size, 229, none⟩)) rfl (by kernel_rfl) (by kernel_rfl) (by kernel_rfl) (fun _ _ _ h => h) (Or.inl ⟨by rfl, fun w _ => by go_simp⟩) hS ?_
  try simp only [Act.put, List.getElem_toArray, List.getElem_cons_zero, List.getElem_cons_succ, List.setIfInBounds_toArray, List.set_cons_zero, List.set_cons_succ]
  refine wpAnyH_take (i := 13) (v := .int .u8 r.ps) rfl (by kernel_rfl) (by kernel_rfl) (by kernel_rfl) (fun _ _ _ h => h) (Or.inl ⟨by rfl, fun w h => by have c := row_at h.1 229 _ (R.atT r hf.len 2); go_simp⟩) hS ?_
  try simp only [Act.put, List.getElem_toArray, List.getElem_cons_zero, List.getElem_cons_succ, List.setIfInBounds_toArray, List.set_cons_zero, List.set_cons_succ]
  refine wpAnyH_take (i := 14) (v := .int .i64 r.ps) rfl (by kernel_rfl) (by kernel_rfl) (by kernel_rfl) (fun _ _ _ h => h) (Or.inl ⟨by rfl, fun w _ => by go_simp⟩) hS ?_
  try simp only [Act.put, List.getElem_toArray, List.getElem_cons_zero, List.getElem_cons_succ, List.setIfInBounds_toArray, List.set_cons_zero, List.set_cons_succ]
  refine wpAnyH_take (i := 17) (v := .pointer (some ⟨w.heap.size, 230, none⟩)) rfl (by kernel_rfl) (by kernel_rfl) (by kernel_rfl) (fun _ _ _ h => h) (Or.inl ⟨by rfl, fun w _ => by go_simp⟩) hS ?_
  try simp only [Act.put, List.getElem_toArray, List.getElem_cons_zero, List.getElem_cons_succ, List.setIfInBounds_toArray, List.set_cons_zero, List.set_cons_succ]
  refine wpAnyH_take (i := 18) (v := .string r.delta) rfl (by kernel_rfl) (by kernel_rfl) (by kernel_rfl) (fun _ _ _ h => h) (Or.inl ⟨by rfl, fun w h => by have c := row_at h.1 230 _ (R.atT r hf.len 3); go_simp⟩) hS ?_
  try simp only [Act.put, List.getElem_toArray, List.getElem_cons_zero, List.getElem_cons_succ, List.setIfInBounds_toArray, List.set_cons_zero, List.set_cons_succ]
  refine wpAnyH_take (i := 19) (v := .int .i64 r.delta.size) rfl (by kernel_rfl) (by kernel_rfl) (by kernel_rfl) (fun _ _ _ h => h) (Or.inl ⟨by rfl, fun w _ => by go_simp⟩) hS ?_
  try simp only [Act.put, List.getElem_toArray, List.getElem_cons_zero, List.getElem_cons_succ, List.setIfInBounds_toArray, List.set_cons_zero, List.set_cons_succ]
  refine wpAnyH_take (i := 22) (v := .pointer (some ⟨w.heap.size, 230, none⟩)) rfl (by kernel_rfl) (by kernel_rfl) (by kernel_rfl) (fun _ _ _ h => h) (Or.inl ⟨by rfl, fun w _ => by go_simp⟩) hS ?_
  try simp only [Act.put, List.getElem_toArray, List.getElem_cons_zero, List.getElem_cons_succ, List.setIfInBounds_toArray, List.set_cons_zero, List.set_cons_succ]
  refine wpAnyH_take (i := 23) (v := .string r.delta) rfl (by kernel_rfl) (by kernel_rfl) (by kernel_rfl) (fun _ _ _ h => h) (Or.inl ⟨by rfl, fun w h => by have c := row_at h.1 230 _ (R.atT r hf.len 3); go_simp⟩) hS ?_
  try simp only [Act.put, List.getElem_toArray, List.getElem_cons_zero, List.getElem_cons_succ, List.setIfInBounds_toArray, List.set_cons_zero, List.set_cons_succ]
  refine wpAnyH_ready (rs := [4]) (by kernel_rfl) (by simp) ?_
  refine AllReadyH.cons rfl (fun K hK => ?_) AllReadyH.nil
  go_simp
  go_at_call 22
  refine Calls.mono (P1.out _) ?_
  rintro e wc ⟨rfl, hcb⟩
  refine hK.out _ _ (⟨hS.1.below hcb hS.1.lt, hS.2.trans (hcb.mono hS.2.size)⟩) fun hS => ?_
  try simp only [Act.put, List.getElem_toArray, List.getElem_cons_zero, List.getElem_cons_succ, List.setIfInBounds_toArray, List.set_cons_zero, List.set_cons_succ]
  clear hcb
  refine wpAnyH_ready (rs := [9]) (by kernel_rfl) (by simp) ?_
  refine AllReadyH.cons rfl (fun K hK => ?_) AllReadyH.nil
  go_simp
  go_at_call 22
  refine Calls.mono (P2.out _) ?_
  rintro e w2_9 ⟨rfl, hcb⟩
  refine hK.out _ _ (⟨hS.1.below hcb hS.1.lt, hS.2.trans (hcb.mono hS.2.size)⟩) fun hS => ?_
  try simp only [Act.put, List.getElem_toArray, List.getElem_cons_zero, List.getElem_cons_succ, List.setIfInBounds_toArray, List.set_cons_zero, List.set_cons_succ]
  clear hcb
  refine wpAnyH_take (i := 10) (v := .string (strOfNums B1)) rfl (by kernel_rfl) (by kernel_rfl) (by kernel_rfl) (fun _ _ _ h => h) (Or.inl ⟨by rfl, fun w _ => by go_simp⟩) hS ?_
  try simp only [Act.put, List.getElem_toArray, List.getElem_cons_zero, List.getElem_cons_succ, List.setIfInBounds_toArray, List.set_cons_zero, List.set_cons_succ]
  refine wpAnyH_ready (rs := [15]) (by kernel_rfl) (by simp) ?_
  refine AllReadyH.cons rfl (fun K hK => ?_) AllReadyH.nil
  go_simp
  go_at_call 21
  refine Calls.mono (P3.out _) ?_
  rintro e w3_15 ⟨rfl, hcb⟩
  refine hK.out _ _ (⟨hS.1.below hcb hS.1.lt, hS.2.trans (hcb.mono hS.2.size)⟩) fun hS => ?_
  try simp only [Act.put, List.getElem_toArray, List.getElem_cons_zero, List.getElem_cons_succ, List.setIfInBounds_toArray, List.set_cons_zero, List.set_cons_succ]
  clear hcb
  refine wpAnyH_take (i := 16) (v := .string (strOfNums B2)) rfl (by kernel_rfl) (by kernel_rfl) (by kernel_rfl) (fun _ _ _ h => h) (Or.inl ⟨by rfl, fun w _ => by go_simp⟩) hS ?_
  try simp only [Act.put, List.getElem_toArray, List.getElem_cons_zero, List.getElem_cons_succ, List.setIfInBounds_toArray, List.set_cons_zero, List.set_cons_succ]
  refine wpAnyH_ready (rs := [20]) (by kernel_rfl) (by simp) ?_
  refine AllReadyH.cons rfl (fun K hK => ?_) AllReadyH.nil
  go_simp
  go_at_call 21
  refine Calls.mono (P4.out _) ?_
  rintro e w4_20 ⟨rfl, hcb⟩
  refine hK.out _ _ (⟨hS.1.below hcb hS.1.lt, hS.2.trans (hcb.mono hS.2.size)⟩) fun hS => ?_
  try simp only [Act.put, List.getElem_toArray, List.getElem_cons_zero, List.getElem_cons_succ, List.setIfInBounds_toArray, List.set_cons_zero, List.set_cons_succ]
  clear hcb
  refine wpAnyH_take (i := 21) (v := .string (strOfNums B3)) rfl (by kernel_rfl) (by kernel_rfl) (by kernel_rfl) (fun _ _ _ h => h) (Or.inl ⟨by rfl, fun w _ => by go_simp⟩) hS ?_
  try simp only [Act.put, List.getElem_toArray, List.getElem_cons_zero, List.getElem_cons_succ, List.setIfInBounds_toArray, List.set_cons_zero, List.set_cons_succ]
  refine wpAnyH_take (i := 24) (v := .string (strOfNums B4)) rfl (by kernel_rfl) (by kernel_rfl) (by kernel_rfl) (fun _ _ _ h => h) (Or.inl ⟨by rfl, fun w _ => by go_simp⟩) hS ?_
  try simp only [Act.put, List.getElem_toArray, List.getElem_cons_zero, List.getElem_cons_succ, List.setIfInBounds_toArray, List.set_cons_zero, List.set_cons_succ]
  refine wpAnyH_take (i := 25) (v := .string (strOfNums T)) rfl (by kernel_rfl) (by kernel_rfl) (by kernel_rfl) (fun _ _ _ h => h) (Or.inl ⟨by rfl, fun w _ => by go_simp⟩) hS ?_
  try simp only [Act.put, List.getElem_toArray, List.getElem_cons_zero, List.getElem_cons_succ, List.setIfInBounds_toArray, List.set_cons_zero, List.set_cons_succ]
  refine wpAnyH_take (i := 26) (v := .string (strOfNums T)) rfl (by kernel_rfl) (by kernel_rfl) (by kernel_rfl) (fun _ _ _ h => h) (Or.inl ⟨by rfl, fun w _ => by go_simp⟩) hS ?_
  try simp only [Act.put, List.getElem_toArray, List.getElem_cons_zero, List.getElem_cons_succ, List.setIfInBounds_toArray, List.set_cons_zero, List.set_cons_succ]
  refine wpAnyH_done (by kernel_rfl) ?_ _
  go_wp2
  go_ret2
  exact ⟨by rw [HS.out, HM.out]; rfl, hS.2⟩

set_option maxRecDepth 20000 in
set_option maxHeartbeats 4000000 in
theorem renc_3 (r : R) (w : World) (hf : r.Fits) (hm : mayR r = true) (hk : r.kind = 3) :
    Calls Try.prog 10 #[.agg r.arr] w fun e w' => e = .returned (.tuple #[.string (encS r), .bool (mayR r)]) ∧ Below w.heap.size w w' := by
  have y0 : Row (w.alloc (.cells r.arr 33)) w.heap.size r.arr 33 := Row.new _ _ _
  have yb : Below w.heap.size w (w.alloc (.cells r.arr 33)) := (Below.refl _ _).alloc (Nat.le_refl _) _
  have hs1 := R.arr_size r hf.len
  have HMY : Hid _ := fun w => rmay_any r w hf
  rw [rmay_is r, hm] at HMY
  have hd := mayR_deltas hm
  have HS : Hid (encS r = strOfNums (encT r)) := by show _ = _; unfold encS; rw [hm]; rfl
  have HM : Hid (mayR r = true) := hm
  have f0 := hf.kind
  have f1 := hf.no
  have f2 := hf.ts
  have f3 := hf.slot
  have f4 := hf.pp
  have f5 := hf.ps
  have g1 := hf.old.page
  have g2 := hf.old.ts
  have g3 := hf.old.np
  have g4 := hf.old.ns
  have PK : Hid _ := fun w => one_any r.kind w hf.kind
  have PN : Hid _ := rput_at r.no 2 _ rfl (by omega) (by omega) (by decide)
  obtain ⟨A0, HA0⟩ : ∃ L, Hid ([r.kind] = L) := ⟨_, rfl⟩
  obtain ⟨N2, HN2⟩ : ∃ L, Hid (low r.no 2 = L) := ⟨_, rfl⟩
  obtain ⟨L1, HL1⟩ : ∃ L, Hid ([r.slot] = L) := ⟨_, rfl⟩
  obtain ⟨L2, HL2⟩ : ∃ L, Hid (low r.old.page 2 = L) := ⟨_, rfl⟩
  obtain ⟨L3, HL3⟩ : ∃ L, Hid (low r.old.ts 4 = L) := ⟨_, rfl⟩
  obtain ⟨L4, HL4⟩ : ∃ L, Hid (low r.old.np 2 = L) := ⟨_, rfl⟩
  obtain ⟨L5, HL5⟩ : ∃ L, Hid ([r.old.ns] = L) := ⟨_, rfl⟩
  obtain ⟨L6, HL6⟩ : ∃ L, Hid ([(r.old.delta.size : Int)] = L) := ⟨_, rfl⟩
  obtain ⟨A2, HA2⟩ : ∃ L, Hid (A0 ++ N2 = L) := ⟨_, rfl⟩
  obtain ⟨B1, HB1⟩ : ∃ L, Hid (L1 ++ L2 = L) := ⟨_, rfl⟩
  obtain ⟨B2, HB2⟩ : ∃ L, Hid (B1 ++ L3 = L) := ⟨_, rfl⟩
  obtain ⟨B3, HB3⟩ : ∃ L, Hid (B2 ++ L4 = L) := ⟨_, rfl⟩
  obtain ⟨B4, HB4⟩ : ∃ L, Hid (B3 ++ L5 = L) := ⟨_, rfl⟩
  obtain ⟨B5, HB5⟩ : ∃ L, Hid (B4 ++ L6 = L) := ⟨_, rfl⟩
  obtain ⟨B6, HB6⟩ : ∃ L, Hid (B5 ++ nums r.old.delta = L) := ⟨_, rfl⟩
  obtain ⟨T, HT⟩ : ∃ L, Hid (A2 ++ B6 = L) := ⟨_, rfl⟩
  rw [HA0.out] at PK
  rw [HN2.out] at PN
  have P1 : Hid _ := fun w => one_any r.slot w hf.slot
  have P2 : Hid _ := rput_at r.old.page 2 L2 HL2.out (by omega) (by omega) (by decide)
  have P3 : Hid _ := rput_at r.old.ts 4 L3 HL3.out (by omega) (by omega) (by decide)
  have P4 : Hid _ := rput_at r.old.np 2 L4 HL4.out (by omega) (by omega) (by decide)
  have P5 : Hid _ := fun w => one_any r.old.ns w hf.old.ns
  have P6 : Hid _ := fun w => one_any (r.old.delta.size : Int) w (by omega)
  rw [HL1.out] at P1
  rw [HL5.out] at P5
  rw [HL6.out] at P6
  have HT2 : Hid (encT r = T) := by
    show _ = _
    rw [← HT.out, ← HA2.out, ← HB6.out, ← HB5.out, ← HB4.out, ← HB3.out, ← HB2.out, ← HB1.out, ← HA0.out, ← HN2.out, ← HL1.out, ← HL2.out, ← HL3.out, ← HL4.out, ← HL5.out, ← HL6.out]
    unfold encT fldT
    rw [if_neg (by omega), if_neg (by omega), if_pos hk]
    unfold oldT refT sizeT
    rw [low_one _ f0, low_one _ f3, low_one _ g4, low_one _ (by omega)]
    simp only [List.append_assoc]
  rw [HT2.out] at HS
  have tA2 : strOfNums A0 ++ strOfNums N2 = strOfNums A2 := by rw [tx_app, HA2.out]
  have tB1 : strOfNums L1 ++ strOfNums L2 = strOfNums B1 := by rw [tx_app, HB1.out]
  have tB2 : strOfNums B1 ++ strOfNums L3 = strOfNums B2 := by rw [tx_app, HB2.out]
  have tB3 : strOfNums B2 ++ strOfNums L4 = strOfNums B3 := by rw [tx_app, HB3.out]
  have tB4 : strOfNums B3 ++ strOfNums L5 = strOfNums B4 := by rw [tx_app, HB4.out]
  have tB5 : strOfNums B4 ++ strOfNums L6 = strOfNums B5 := by rw [tx_app, HB5.out]
  have tT : strOfNums A2 ++ strOfNums B6 = strOfNums T := by rw [tx_app, HT.out]
  have tB6 : strOfNums B5 ++ r.old.delta = strOfNums B6 := by
    conv => lhs; rw [← tx_nums r.old.delta]
    rw [tx_app, HB6.out]
  have zA0 : (strOfNums A0).size = 1 := by rw [strOfNums_size]; rw [← HA0.out]; rfl
  have zN2 : (strOfNums N2).size = 2 := by rw [strOfNums_size]; rw [← HN2.out, low_length]
  have zL1 : (strOfNums L1).size = 1 := by rw [strOfNums_size]; rw [← HL1.out]; rfl
  have zL2 : (strOfNums L2).size = 2 := by rw [strOfNums_size]; rw [← HL2.out, low_length]
  have zL3 : (strOfNums L3).size = 4 := by rw [strOfNums_size]; rw [← HL3.out, low_length]
  have zL4 : (strOfNums L4).size = 2 := by rw [strOfNums_size]; rw [← HL4.out, low_length]
  have zL5 : (strOfNums L5).size = 1 := by rw [strOfNums_size]; rw [← HL5.out]; rfl
  have zL6 : (strOfNums L6).size = 1 := by rw [strOfNums_size]; rw [← HL6.out]; rfl
  have zA2 : (strOfNums A2).size = 3 := by rw [← tA2, ByteArray.size_append, zA0, zN2]
  have zB1 : (strOfNums B1).size = 3 := by rw [← tB1, ByteArray.size_append, zL1, zL2]
  have zB2 : (strOfNums B2).size = 7 := by rw [← tB2, ByteArray.size_append, zB1, zL3]
  have zB3 : (strOfNums B3).size = 9 := by rw [← tB3, ByteArray.size_append, zB2, zL4]
  have zB4 : (strOfNums B4).size = 10 := by rw [← tB4, ByteArray.size_append, zB3, zL5]
  have zB5 : (strOfNums B5).size = 11 := by rw [← tB5, ByteArray.size_append, zB4, zL6]
  have zB6 : (strOfNums B6).size ≤ 100 := by rw [← tB6, ByteArray.size_append, zB5]; omega
  have s1 : ¬ (11 + r.old.delta.size) > 9223372036854775807 := by omega
  have s2 : ¬ (3 + (strOfNums B6).size) > 9223372036854775807 := by omega
  have e1 : IntKind.u64.wrap r.no = r.no := by rw [IntKind.wrap_u64]; omega
  have e2 : IntKind.u64.wrap r.old.page = r.old.page := by rw [IntKind.wrap_u64]; omega
  have e3 : IntKind.u64.wrap r.old.ts = r.old.ts := by rw [IntKind.wrap_u64]; omega
  have e6 : IntKind.u64.wrap r.old.np = r.old.np := by rw [IntKind.wrap_u64]; omega
  have e4 : IntKind.i64.wrap r.slot = r.slot := by rw [IntKind.wrap_i64]; omega
  have e7 : IntKind.i64.wrap r.old.ns = r.old.ns := by rw [IntKind.wrap_i64]; omega
  have e5 : IntKind.i64.wrap r.kind = r.kind := by rw [IntKind.wrap_i64]; omega
  have t1 : (r.kind == 1) = false := by simp; omega
  have t2 : (r.kind == 2) = false := by simp; omega
  have t3 : (r.kind == 3) = true := by simp [hk]
  have t6 : (r.kind != 6) = true := by simp; omega
  have u6 : (r.kind == 6) = false := by simp; omega
  clear hm hk
  go_enter Try.func10, Try.ntmps10
  go_upto_region 1 with fail
  generalize w.alloc (.cells r.arr 33) = w1 at y0 yb ⊢
  go_upto_region 3 with (first
    | (refine load_cells rfl 33 (.tmp 1) rfl w.heap.size rfl 33 r.arr y0 238 Try.underlying33 rfl size33 hs1 ?_)
    | (go_at_call 20; refine (HMY.out _).mono ?_; clear HMY; rintro e w3 ⟨rfl, h3⟩; have y1 := y0.below h3 y0.lt; have yb1 := yb.trans (h3.mono yb.size); have c0 := row_at y1 0 _ (R.at0 r)))
  clear y0 yb h3
  go_upto_region 4 with (go_at_call 21; refine (PK.out _).mono ?_; clear PK; rintro e w4 ⟨rfl, h4⟩; have y0 := y1.below h4 y1.lt; have yb := yb1.trans (h4.mono yb1.size))
  clear y1 yb1 h4 c0
  have c0 := row_at y0 0 _ (R.at0 r)
  have c2 := row_at y0 2 _ (R.at2 r)
  go_upto_region 10 with (go_at_call 22; refine (PN.out _).mono ?_; clear PN; rintro e w5 ⟨rfl, h5⟩; have y1 := y0.below h5 y0.lt; have yb1 := yb.trans (h5.mono yb.size); have d0 := row_at y1 0 _ (R.at0 r))
  clear y0 yb h5 c0 c2
  go_upto_region 22 with fail
  clear d0
  have y0 := y1
  have yb := yb1
  clear y1 yb1
  generalize w5 = ww at y0 yb ⊢
  refine wp_region_held_drew (S := fun w' => Row w' w.heap.size r.arr 33 ∧ Below w.heap.size w w') (by kernel_rfl) ⟨y0, yb.drew⟩ fun hS => ?_
  clear y0 yb
  refine wpAnyH_take (i := 0) (v := .string (strOfNums A2)) rfl (by kernel_rfl) (by kernel_rfl) (by kernel_rfl) (fun _ _ _ h => h) (Or.inl ⟨by rfl, fun w _ => by go_simp⟩) hS ?_
  try simp only [Act.put, List.getElem_toArray, List.getElem_cons_zero, List.getElem_cons_succ, List.setIfInBounds_toArray, List.set_cons_zero, List.set_cons_succ]
  refine wpAnyH_take (i := 1) (v := .pointer (some ⟨w.heap.size, 231, none⟩)) rfl (by kernel_rfl) (by kernel_rfl) (by kernel_rfl) (fun _ _ _ h => h) (Or.inl ⟨by rfl, fun w _ => by go_simp⟩) hS ?_
  try simp only [Act.put, List.getElem_toArray, List.getElem_cons_zero, List.getElem_cons_succ, List.setIfInBounds_toArray, List.set_cons_zero, List.set_cons_succ]
  refine wpAnyH_take (i := 2) (v := .int .u8 r.slot) rfl (by kernel_rfl) (by kernel_rfl) (by kernel_rfl) (fun _ _ _ h => h) (Or.inl ⟨by rfl, fun w h => by have c := row_at h.1 231 _ (R.atT r hf.len 4); go_simp⟩) hS ?_
  try simp only [Act.put, List.getElem_toArray, List.getElem_cons_zero, List.getElem_cons_succ, List.setIfInBounds_toArray, List.set_cons_zero, List.set_cons_succ]
  refine wpAnyH_take (i := 3) (v := .int .i64 r.slot) rfl (by kernel_rfl) (by kernel_rfl) (by kernel_rfl) (fun _ _ _ h => h) (Or.inl ⟨by rfl, fun w _ => by go_simp⟩) hS ?_
  try simp only [Act.put, List.getElem_toArray, List.getElem_cons_zero, List.getElem_cons_succ, List.setIfInBounds_toArray, List.set_cons_zero, List.set_cons_succ]
  refine wpAnyH_take (i := 5) (v := .pointer (some ⟨w.heap.size, 232, none⟩)) rfl (by kernel_rfl) (by kernel_rfl) (by kernel_rfl) (fun _ _ _ h => h) (Or.inl ⟨by rfl, fun w _ => by go_simp⟩) hS ?_
  try simp only [Act.put, List.getElem_toArray, List.getElem_cons_zero, List.getElem_cons_succ, List.setIfInBounds_toArray, List.set_cons_zero, List.set_cons_succ]
  refine wpAnyH_take (i := 6) (v := .pointer (some ⟨w.heap.size, 233, none⟩)) rfl (by kernel_rfl) (by kernel_rfl) (by kernel_rfl) (fun _ _ _ h => h) (Or.inl ⟨by rfl, fun w _ => by go_simp⟩) hS ?_
  try simp only [Act.put, List.getElem_toArray, List.getElem_cons_zero, List.getElem_cons_succ, List.setIfInBounds_toArray, List.set_cons_zero, List.set_cons_succ]
  refine wpAnyH_take (i := 7) (v := .int .u16 r.old.page) rfl (by kernel_rfl) (by kernel_rfl) (by kernel_rfl) (fun _ _ _ h => h) (Or.inl ⟨by rfl, fun w h => by have c := row_at h.1 233 _ (R.atT r hf.len 6); go_simp⟩) hS ?_
  try simp only [Act.put, List.getElem_toArray, List.getElem_cons_zero, List.getElem_cons_succ, List.setIfInBounds_toArray, List.set_cons_zero, List.set_cons_succ]
  refine wpAnyH_take (i := 8) (v := .int .u64 r.old.page) rfl (by kernel_rfl) (by kernel_rfl) (by kernel_rfl) (fun _ _ _ h => h) (Or.inl ⟨by rfl, fun w _ => by go_simp⟩) hS ?_
  try simp only [Act.put, List.getElem_toArray, List.getElem_cons_zero, List.getElem_cons_succ, List.setIfInBounds_toArray, List.set_cons_zero, List.set_cons_succ]
  refine wpAnyH_take (i := 11) (v := .pointer (some ⟨w.heap.size, 232, none⟩)) rfl (by kernel_rfl) (by kernel_rfl) (by kernel_rfl) (fun _ _ _ h => h) (Or.inl ⟨by rfl, fun w _ => by go_simp⟩) hS ?_
  try simp only [Act.put, List.getElem_toArray, List.getElem_cons_zero, List.getElem_cons_succ, List.setIfInBounds_toArray, List.set_cons_zero, List.set_cons_succ]
  refine wpAnyH_take (i := 12) (v := .pointer (some ⟨w.heap.size, 234, none⟩)) rfl (by kernel_rfl) (by kernel_rfl) (by kernel_rfl) (fun _ _ _ h => h) (Or.inl ⟨by rfl, fun w _ => by go_simp⟩) hS ?_
  try simp only [Act.put, List.getElem_toArray, List.getElem_cons_zero, List.getElem_cons_succ, List.setIfInBounds_toArray, List.set_cons_zero, List.set_cons_succ]
  refine wpAnyH_take (i := 13) (v := .int .u32 r.old.ts) rfl (by kernel_rfl) (by kernel_rfl) (by kernel_rfl) (fun _ _ _ h => h) (Or.inl ⟨by rfl, fun w h => by have c := row_at h.1 234 _ (R.atT r hf.len 7); go_simp⟩) hS ?_
  try simp only [Act.put, List.getElem_toArray, List.getElem_cons_zero, List.getElem_cons_succ, List.setIfInBounds_toArray, List.set_cons_zero, List.set_cons_succ]
  refine wpAnyH_take (i := 14) (v := .int .u64 r.old.ts) rfl (by kernel_rfl) (by kernel_rfl) (by kernel_rfl) (fun _ _ _ h => h) (Or.inl ⟨by rfl, fun w _ => by go_simp⟩) hS ?_
  try simp only [Act.put, List.getElem_toArray, List.getElem_cons_zero, List.getElem_cons_succ, List.setIfInBounds_toArray, List.set_cons_zero, List.set_cons_succ]
  refine wpAnyH_take (i := 17) (v := .pointer (some ⟨w.heap.size, 232, none⟩)) rfl (by kernel_rfl) (by kernel_rfl) (by kernel_rfl) (fun _ _ _ h => h) (Or.inl ⟨by rfl, fun w _ => by go_simp⟩) hS ?_
  try simp only [Act.put, List.getElem_toArray, List.getElem_cons_zero, List.getElem_cons_succ, List.setIfInBounds_toArray, List.set_cons_zero, List.set_cons_succ]
  refine wpAnyH_take (i := 18) (v := .pointer (some ⟨w.heap.size, 235, none⟩)) rfl (by kernel_rfl) (by kernel_rfl) (by kernel_rfl) (fun _ _ _ h => h) (Or.inl ⟨by rfl, fun w _ => by go_simp⟩) hS ?_
  try simp only [Act.put, List.getElem_toArray, List.getElem_cons_zero, List.getElem_cons_succ, List.setIfInBounds_toArray, List.set_cons_zero, List.set_cons_succ]
  refine wpAnyH_take (i := 19) (v := .pointer (some ⟨w.heap.size, 235, none⟩)) rfl (by kernel_rfl) (by kernel_rfl) (by kernel_rfl) (fun _ _ _ h => h) (Or.inl ⟨by rfl, fun w _ => by go_simp⟩) hS ?_
  try simp only [Act.put, List.getElem_toArray, List.getElem_cons_zero, List.getElem_cons_succ, List.setIfInBounds_toArray, List.set_cons_zero, List.set_cons_succ]
  refine wpAnyH_take (i := 20) (v := .int .u16 r.old.np) rfl (by kernel_rfl) (by kernel_rfl) (by kernel_rfl) (fun _ _ _ h => h) (Or.inl ⟨by rfl, fun w h => by have c := row_at h.1 235 _ (R.atT r hf.len 8); go_simp⟩) hS ?_
  try simp only [Act.put, List.getElem_toArray, List.getElem_cons_zero, List.getElem_cons_succ, List.setIfInBounds_toArray, List.set_cons_zero, List.set_cons_succ]
  refine wpAnyH_take (i := 21) (v := .int .u64 r.old.np) rfl (by kernel_rfl) (by kernel_rfl) (by kernel_rfl) (fun _ _ _ h => h) (Or.inl ⟨by rfl, fun w _ => by go_simp⟩) hS ?_
  try simp only [Act.put, List.getElem_toArray, List.getElem_cons_zero, List.getElem_cons_succ, List.setIfInBounds_toArray, List.set_cons_zero, List.set_cons_succ]
  refine wpAnyH_take (i := 24) (v := .pointer (some ⟨w.heap.size, 232, none⟩)) rfl (by kernel_rfl) (by kernel_rfl) (by kernel_rfl) (fun _ _ _ h => h) (Or.inl ⟨by rfl, fun w _ => by go_simp⟩) hS ?_
  try simp only [Act.put, List.getElem_toArray, List.getElem_cons_zero, List.getElem_cons_succ, List.setIfInBounds_toArray, List.set_cons_zero, List.set_cons_succ]
  refine wpAnyH_take (i := 25) (v := .pointer (some ⟨w.heap.size, 235, none⟩)) rfl (by kernel_rfl) (by kernel_rfl) (by kernel_rfl) (fun _ _ _ h => h) (Or.inl ⟨by rfl, fun w _ => by go_simp⟩) hS ?_
  try simp only [Act.put, List.getElem_toArray, List.getElem_cons_zero, List.getElem_cons_succ, List.setIfInBounds_toArray, List.set_cons_zero, List.set_cons_succ]
  refine wpAnyH_take (i := 26) (v := .pointer (some ⟨w.heap.size, 236, none⟩)) rfl (by kernel_rfl) (by kernel_rfl) (by kernel_rfl) (fun _ _ _ h => h) (Or.inl ⟨by rfl, fun w _ => by go_simp⟩) hS ?_
  try simp only [Act.put, List.getElem_toArray, List.getElem_cons_zero, List.getElem_cons_succ, List.setIfInBounds_toArray, List.set_cons_zero, List.set_cons_succ]
  refine wpAnyH_take (i := 27) (v := .int .u8 r.old.ns) rfl (by kernel_rfl) (by kernel_rfl) (by kernel_rfl) (fun _ _ _ h => h) (Or.inl ⟨by rfl, fun w h => by have c := row_at h.1 236 _ (R.atT r hf.len 9); go_simp⟩) hS ?_
  try simp only [Act.put, List.getElem_toArray, List.getElem_cons_zero, List.getElem_cons_succ, List.setIfInBounds_toArray, List.set_cons_zero, List.set_cons_succ]
  refine wpAnyH_take (i := 28) (v := .int .i64 r.old.ns) rfl (by kernel_rfl) (by kernel_rfl) (by kernel_rfl) (fun _ _ _ h => h) (Or.inl ⟨by rfl, fun w _ => by go_simp⟩) hS ?_
  try simp only [Act.put, List.getElem_toArray, List.getElem_cons_zero, List.getElem_cons_succ, List.setIfInBounds_toArray, List.set_cons_zero, List.set_cons_succ]
  refine wpAnyH_take (i := 31) (v := .pointer (some ⟨w.heap.size, 232, none⟩)) rfl (by kernel_rfl) (by kernel_rfl) (by kernel_rfl) (fun _ _ _ h => h) (Or.inl ⟨by rfl, fun w _ => by go_simp⟩) hS ?_
  try simp only [Act.put, List.getElem_toArray, List.getElem_cons_zero, List.getElem_cons_succ, List.setIfInBounds_toArray, List.set_cons_zero, List.set_cons_succ]
  refine wpAnyH_take (i := 32) (v := .pointer (some ⟨w.heap.size, 237, none⟩)) rfl (by kernel_rfl) (by kernel_rfl) (by kernel_rfl) (fun _ _ _ h => h) (Or.inl ⟨by rfl, fun w _ => by go_simp⟩) hS ?_
  try simp only [Act.put, List.getElem_toArray, List.getElem_cons_zero, List.getElem_cons_succ, List.setIfInBounds_toArray, List.set_cons_zero, List.set_cons_succ]
  refine wpAnyH_take (i := 33) (v := .string r.old.delta) rfl (by kernel_rfl) (by kernel_rfl) (by kernel_rfl) (fun _ _ _ h => h) (Or.inl ⟨by rfl, fun w h => by have c := row_at h.1 237 _ (R.atT r hf.len 10); go_simp⟩) hS ?_
  try simp only [Act.put, List.getElem_toArray, List.getElem_cons_zero, List.getElem_cons_succ, List.setIfInBounds_toArray, List.set_cons_zero, List.set_cons_succ]
  refine wpAnyH_take (i := 34) (v := .int .i64 r.old.delta.size) rfl (by kernel_rfl) (by kernel_rfl) (by kernel_rfl) (fun _ _ _ h => h) (Or.inl ⟨by rfl, fun w _ => by go_simp⟩) hS ?_
  try simp only [Act.put, List.getElem_toArray, List.getElem_cons_zero, List.getElem_cons_succ, List.setIfInBounds_toArray, List.set_cons_zero, List.set_cons_succ]
  refine wpAnyH_take (i := 37) (v := .pointer (some ⟨w.heap.size, 232, none⟩)) rfl (by kernel_rfl) (by kernel_rfl) (by kernel_rfl) (fun _ _ _ h => h) (Or.inl ⟨by rfl, fun w _ => by go_simp⟩) hS ?_
  try simp only [Act.put, List.getElem_toArray, List.getElem_cons_zero, List.getElem_cons_succ, List.setIfInBounds_toArray, List.set_cons_zero, List.set_cons_succ]
  refine wpAnyH_take (i := 38) (v := .pointer (some ⟨w.heap.size, 237, none⟩)) rfl (by kernel_rfl) (by kernel_rfl) (by kernel_rfl) (fun _ _ _ h => h) (Or.inl ⟨by rfl, fun w _ => by go_simp⟩) hS ?_
  try simp only [Act.put, List.getElem_toArray, List.getElem_cons_zero, List.getElem_cons_succ, List.setIfInBounds_toArray, List.set_cons_zero, List.set_cons_succ]
  refine wpAnyH_take (i := 39) (v := .string r.old.delta) rfl (by kernel_rfl) (by kernel_rfl) (by kernel_rfl) (fun _ _ _ h => h) (Or.inl ⟨by rfl, fun w h => by have c := row_at h.1 237 _ (R.atT r hf.len 10); go_simp⟩) hS ?_
  try simp only [Act.put, List.getElem_toArray, List.getElem_cons_zero, List.getElem_cons_succ, List.setIfInBounds_toArray, List.set_cons_zero, List.set_cons_succ]
  refine wpAnyH_ready (rs := [4]) (by kernel_rfl) (by simp) ?_
  refine AllReadyH.cons rfl (fun K hK => ?_) AllReadyH.nil
  go_simp
  go_at_call 21
  refine Calls.mono (P1.out _) ?_
  rintro e wc ⟨rfl, hcb⟩
  refine hK.out _ _ (⟨hS.1.below hcb hS.1.lt, hS.2.trans (hcb.mono hS.2.size)⟩) fun hS => ?_
  try simp only [Act.put, List.getElem_toArray, List.getElem_cons_zero, List.getElem_cons_succ, List.setIfInBounds_toArray, List.set_cons_zero, List.set_cons_succ]
  clear hcb
  refine wpAnyH_ready (rs := [9]) (by kernel_rfl) (by simp) ?_
  refine AllReadyH.cons rfl (fun K hK => ?_) AllReadyH.nil
  go_simp
  go_at_call 22
  refine Calls.mono (P2.out _) ?_
  rintro e w2_9 ⟨rfl, hcb⟩
  refine hK.out _ _ (⟨hS.1.below hcb hS.1.lt, hS.2.trans (hcb.mono hS.2.size)⟩) fun hS => ?_
  try simp only [Act.put, List.getElem_toArray, List.getElem_cons_zero, List.getElem_cons_succ, List.setIfInBounds_toArray, List.set_cons_zero, List.set_cons_succ]
  clear hcb
  refine wpAnyH_take (i := 10) (v := .string (strOfNums B1)) rfl (by kernel_rfl) (by kernel_rfl) (by kernel_rfl) (fun _ _ _ h => h) (Or.inl ⟨by rfl, fun w _ => by go_simp⟩) hS ?_
  try simp only [Act.put, List.getElem_toArray, List.getElem_cons_zero, List.getElem_cons_succ, List.setIfInBounds_toArray, List.set_cons_zero, List.set_cons_succ]
  refine wpAnyH_ready (rs := [15]) (by kernel_rfl) (by simp) ?_
  refine AllReadyH.cons rfl (fun K hK => ?_) AllReadyH.nil
  go_simp
  go_at_call 22
  refine Calls.mono (P3.out _) ?_
  rintro e w3_15 ⟨rfl, hcb⟩
  refine hK.out _ _ (⟨hS.1.below hcb hS.1.lt, hS.2.trans (hcb.mono hS.2.size)⟩) fun hS => ?_
  try simp only [Act.put, List.getElem_toArray, List.getElem_cons_zero, List.getElem_cons_succ, List.setIfInBounds_toArray, List.set_cons_zero, List.set_cons_succ]
  clear hcb
  refine wpAnyH_take (i := 16) (v := .string (strOfNums B2)) rfl (by kernel_rfl) (by kernel_rfl) (by kernel_rfl) (fun _ _ _ h => h) (Or.inl ⟨by rfl, fun w _ => by go_simp⟩) hS ?_
  try simp only [Act.put, List.getElem_toArray, List.getElem_cons_zero, List.getElem_cons_succ, List.setIfInBounds_toArray, List.set_cons_zero, List.set_cons_succ]
  refine wpAnyH_ready (rs := [22]) (by kernel_rfl) (by simp) ?_
  refine AllReadyH.cons rfl (fun K hK => ?_) AllReadyH.nil
  go_simp
  go_at_call 22
  refine Calls.mono (P4.out _) ?_
  rintro e w4_22 ⟨rfl, hcb⟩
  refine hK.out _ _ (⟨hS.1.below hcb hS.1.lt, hS.2.trans (hcb.mono hS.2.size)⟩) fun hS => ?_
  try simp only [Act.put, List.getElem_toArray, List.getElem_cons_zero, List.getElem_cons_succ, List.setIfInBounds_toArray, List.set_cons_zero, List.set_cons_succ]
  clear hcb
  refine wpAnyH_take (i := 23) (v := .string (strOfNums B3)) rfl (by kernel_rfl) (by kernel_rfl) (by kernel_rfl) (fun _ _ _ h => h) (Or.inl ⟨by rfl, fun w _ => by go_simp⟩) hS ?_
  try simp only [Act.put, List.getElem_toArray, List.getElem_cons_zero, List.getElem_cons_succ, List.setIfInBounds_toArray, List.set_cons_zero, List.set_cons_succ]
  refine wpAnyH_ready (rs := [29]) (by kernel_rfl) (by simp) ?_
  refine AllReadyH.cons rfl (fun K hK => ?_) AllReadyH.nil
  go_simp
  go_at_call 21
  refine Calls.mono (P5.out _) ?_
  rintro e w5_29 ⟨rfl, hcb⟩
  refine hK.out _ _ (⟨hS.1.below hcb hS.1.lt, hS.2.trans (hcb.mono hS.2.size)⟩) fun hS => ?_
  try simp only [Act.put, List.getElem_toArray, List.getElem_cons_zero, List.getElem_cons_succ, List.setIfInBounds_toArray, List.set_cons_zero, List.set_cons_succ]
  clear hcb
  refine wpAnyH_take (i := 30) (v := .string (strOfNums B4)) rfl (by kernel_rfl) (by kernel_rfl) (by kernel_rfl) (fun _ _ _ h => h) (Or.inl ⟨by rfl, fun w _ => by go_simp⟩) hS ?_
  try simp only [Act.put, List.getElem_toArray, List.getElem_cons_zero, List.getElem_cons_succ, List.setIfInBounds_toArray, List.set_cons_zero, List.set_cons_succ]
  refine wpAnyH_ready (rs := [35]) (by kernel_rfl) (by simp) ?_
  refine AllReadyH.cons rfl (fun K hK => ?_) AllReadyH.nil
  go_simp
  go_at_call 21
  refine Calls.mono (P6.out _) ?_
  rintro e w6_35 ⟨rfl, hcb⟩
  refine hK.out _ _ (⟨hS.1.below hcb hS.1.lt, hS.2.trans (hcb.mono hS.2.size)⟩) fun hS => ?_
  try simp only [Act.put, List.getElem_toArray, List.getElem_cons_zero, List.getElem_cons_succ, List.setIfInBounds_toArray, List.set_cons_zero, List.set_cons_succ]
  clear hcb
  refine wpAnyH_take (i := 36) (v := .string (strOfNums B5)) rfl (by kernel_rfl) (by kernel_rfl) (by kernel_rfl) (fun _ _ _ h => h) (Or.inl ⟨by rfl, fun w _ => by go_simp⟩) hS ?_
  try simp only [Act.put, List.getElem_toArray, List.getElem_cons_zero, List.getElem_cons_succ, List.setIfInBounds_toArray, List.set_cons_zero, List.set_cons_succ]
  refine wpAnyH_take (i := 40) (v := .string (strOfNums B6)) rfl (by kernel_rfl) (by kernel_rfl) (by kernel_rfl) (fun _ _ _ h => h) (Or.inl ⟨by rfl, fun w _ => by go_simp⟩) hS ?_
  try simp only [Act.put, List.getElem_toArray, List.getElem_cons_zero, List.getElem_cons_succ, List.setIfInBounds_toArray, List.set_cons_zero, List.set_cons_succ]
  refine wpAnyH_take (i := 41) (v := .string (strOfNums T)) rfl (by kernel_rfl) (by kernel_rfl) (by kernel_rfl) (fun _ _ _ h => h) (Or.inl ⟨by rfl, fun w _ => by go_simp⟩) hS ?_
  try simp only [Act.put, List.getElem_toArray, List.getElem_cons_zero, List.getElem_cons_succ, List.setIfInBounds_toArray, List.set_cons_zero, List.set_cons_succ]
  refine wpAnyH_take (i := 42) (v := .string (strOfNums T)) rfl (by kernel_rfl) (by kernel_rfl) (by kernel_rfl) (fun _ _ _ h => h) (Or.inl ⟨by rfl, fun w _ => by go_simp⟩) hS ?_
  try simp only [Act.put, List.getElem_toArray, List.getElem_cons_zero, List.getElem_cons_succ, List.setIfInBounds_toArray, List.set_cons_zero, List.set_cons_succ]
  refine wpAnyH_done (by kernel_rfl) ?_ _
  go_wp2
  go_ret2
  exact ⟨by rw [HS.out, HM.out]; rfl, hS.2⟩

set_option maxRecDepth 20000 in
set_option maxHeartbeats 4000000 in
theorem renc_4 (r : R) (w : World) (hf : r.Fits) (hm : mayR r = true) (hk : r.kind = 4) :
    Calls Try.prog 10 #[.agg r.arr] w fun e w' => e = .returned (.tuple #[.string (encS r), .bool (mayR r)]) ∧ Below w.heap.size w w' := by
  have y0 : Row (w.alloc (.cells r.arr 33)) w.heap.size r.arr 33 := Row.new _ _ _
  have yb : Below w.heap.size w (w.alloc (.cells r.arr 33)) := (Below.refl _ _).alloc (Nat.le_refl _) _
  have hs1 := R.arr_size r hf.len
  have HMY : Hid _ := fun w => rmay_any r w hf
  rw [rmay_is r, hm] at HMY
  have hd := mayR_deltas hm
  have HS : Hid (encS r = strOfNums (encT r)) := by show _ = _; unfold encS; rw [hm]; rfl
  have HM : Hid (mayR r = true) := hm
  have f0 := hf.kind
  have f1 := hf.no
  have f2 := hf.ts
  have f3 := hf.slot
  have f4 := hf.pp
  have f5 := hf.ps
  have PK : Hid _ := fun w => one_any r.kind w hf.kind
  have PN : Hid _ := rput_at r.no 2 _ rfl (by omega) (by omega) (by decide)
  obtain ⟨A0, HA0⟩ : ∃ L, Hid ([r.kind] = L) := ⟨_, rfl⟩
  obtain ⟨N2, HN2⟩ : ∃ L, Hid (low r.no 2 = L) := ⟨_, rfl⟩
  obtain ⟨L1, HL1⟩ : ∃ L, Hid ([r.slot] = L) := ⟨_, rfl⟩
  obtain ⟨A2, HA2⟩ : ∃ L, Hid (A0 ++ N2 = L) := ⟨_, rfl⟩
  obtain ⟨T, HT⟩ : ∃ L, Hid (A2 ++ L1 = L) := ⟨_, rfl⟩
  rw [HA0.out] at PK
  rw [HN2.out] at PN
  have P1 : Hid _ := fun w => one_any r.slot w hf.slot
  rw [HL1.out] at P1
  have HT2 : Hid (encT r = T) := by
    show _ = _
    rw [← HT.out, ← HA2.out, ← HA0.out, ← HN2.out, ← HL1.out]
    unfold encT fldT
    rw [if_neg (by omega), if_neg (by omega), if_neg (by omega), if_pos (by omega)]
    rw [low_one _ f0, low_one _ f3]
    simp only [List.append_assoc]
  rw [HT2.out] at HS
  have tA2 : strOfNums A0 ++ strOfNums N2 = strOfNums A2 := by rw [tx_app, HA2.out]
  have tT : strOfNums A2 ++ strOfNums L1 = strOfNums T := by rw [tx_app, HT.out]
  have zA0 : (strOfNums A0).size = 1 := by rw [strOfNums_size]; rw [← HA0.out]; rfl
  have zN2 : (strOfNums N2).size = 2 := by rw [strOfNums_size]; rw [← HN2.out, low_length]
  have zL1 : (strOfNums L1).size = 1 := by rw [strOfNums_size]; rw [← HL1.out]; rfl
  have zA2 : (strOfNums A2).size = 3 := by rw [← tA2, ByteArray.size_append, zA0, zN2]
  have e1 : IntKind.u64.wrap r.no = r.no := by rw [IntKind.wrap_u64]; omega
  have e4 : IntKind.i64.wrap r.slot = r.slot := by rw [IntKind.wrap_i64]; omega
  have e5 : IntKind.i64.wrap r.kind = r.kind := by rw [IntKind.wrap_i64]; omega
  have t1 : (r.kind == 1) = false := by simp; omega
  have t2 : (r.kind == 2) = false := by simp; omega
  have t3 : (r.kind == 3) = false := by simp; omega
  have t4 : (r.kind == 4) = true := by simp [hk]
  have t5 : (r.kind == 5) = false := by simp; omega
  have t6 : (r.kind != 6) = true := by simp; omega
  have u6 : (r.kind == 6) = false := by simp; omega
  clear hm hk
  go_enter Try.func10, Try.ntmps10
  go_upto_region 1 with fail
  generalize w.alloc (.cells r.arr 33) = w1 at y0 yb ⊢
  go_upto_region 3 with (first
    | (refine load_cells rfl 33 (.tmp 1) rfl w.heap.size rfl 33 r.arr y0 238 Try.underlying33 rfl size33 hs1 ?_)
    | (go_at_call 20; refine (HMY.out _).mono ?_; clear HMY; rintro e w3 ⟨rfl, h3⟩; have y1 := y0.below h3 y0.lt; have yb1 := yb.trans (h3.mono yb.size); have c0 := row_at y1 0 _ (R.at0 r)))
  clear y0 yb h3
  go_upto_region 4 with (go_at_call 21; refine (PK.out _).mono ?_; clear PK; rintro e w4 ⟨rfl, h4⟩; have y0 := y1.below h4 y1.lt; have yb := yb1.trans (h4.mono yb1.size))
  clear y1 yb1 h4 c0
  have c0 := row_at y0 0 _ (R.at0 r)
  have c2 := row_at y0 2 _ (R.at2 r)
  go_upto_region 10 with (go_at_call 22; refine (PN.out _).mono ?_; clear PN; rintro e w5 ⟨rfl, h5⟩; have y1 := y0.below h5 y0.lt; have yb1 := yb.trans (h5.mono yb.size); have d0 := row_at y1 0 _ (R.at0 r))
  clear y0 yb h5 c0 c2
  go_upto_region 25 with fail
  clear d0
  have y0 := y1
  have yb := yb1
  clear y1 yb1
  generalize w5 = ww at y0 yb ⊢
  have c4 := row_at y0 231 _ (R.atT r hf.len 4)
  go_wp2_with (go_at_call 21; refine (P1.out _).mono ?_; clear P1; rintro e w6 ⟨rfl, h6⟩)
  go_ret2
  exact ⟨by rw [HS.out, HM.out]; rfl, yb.trans (h6.mono yb.size)⟩

set_option maxRecDepth 20000 in
set_option maxHeartbeats 4000000 in
theorem renc_5 (r : R) (w : World) (hf : r.Fits) (hm : mayR r = true) (hk : r.kind = 5) :
    Calls Try.prog 10 #[.agg r.arr] w fun e w' => e = .returned (.tuple #[.string (encS r), .bool (mayR r)]) ∧ Below w.heap.size w w' := by
  have y0 : Row (w.alloc (.cells r.arr 33)) w.heap.size r.arr 33 := Row.new _ _ _
  have yb : Below w.heap.size w (w.alloc (.cells r.arr 33)) := (Below.refl _ _).alloc (Nat.le_refl _) _
  have hs1 := R.arr_size r hf.len
  have HMY : Hid _ := fun w => rmay_any r w hf
  rw [rmay_is r, hm] at HMY
  have hd := mayR_deltas hm
  have HS : Hid (encS r = strOfNums (encT r)) := by show _ = _; unfold encS; rw [hm]; rfl
  have HM : Hid (mayR r = true) := hm
  have f0 := hf.kind
  have f1 := hf.no
  have f2 := hf.ts
  have f3 := hf.slot
  have f4 := hf.pp
  have f5 := hf.ps
  have PK : Hid _ := fun w => one_any r.kind w hf.kind
  have PN : Hid _ := rput_at r.no 2 _ rfl (by omega) (by omega) (by decide)
  obtain ⟨A0, HA0⟩ : ∃ L, Hid ([r.kind] = L) := ⟨_, rfl⟩
  obtain ⟨N2, HN2⟩ : ∃ L, Hid (low r.no 2 = L) := ⟨_, rfl⟩
  obtain ⟨L1, HL1⟩ : ∃ L, Hid ([r.slot] = L) := ⟨_, rfl⟩
  obtain ⟨A2, HA2⟩ : ∃ L, Hid (A0 ++ N2 = L) := ⟨_, rfl⟩
  obtain ⟨T, HT⟩ : ∃ L, Hid (A2 ++ L1 = L) := ⟨_, rfl⟩
  rw [HA0.out] at PK
  rw [HN2.out] at PN
  have P1 : Hid _ := fun w => one_any r.slot w hf.slot
  rw [HL1.out] at P1
  have HT2 : Hid (encT r = T) := by
    show _ = _
    rw [← HT.out, ← HA2.out, ← HA0.out, ← HN2.out, ← HL1.out]
    unfold encT fldT
    rw [if_neg (by omega), if_neg (by omega), if_neg (by omega), if_pos (by omega)]
    rw [low_one _ f0, low_one _ f3]
    simp only [List.append_assoc]
  rw [HT2.out] at HS
  have tA2 : strOfNums A0 ++ strOfNums N2 = strOfNums A2 := by rw [tx_app, HA2.out]
  have tT : strOfNums A2 ++ strOfNums L1 = strOfNums T := by rw [tx_app, HT.out]
  have zA0 : (strOfNums A0).size = 1 := by rw [strOfNums_size]; rw [← HA0.out]; rfl
  have zN2 : (strOfNums N2).size = 2 := by rw [strOfNums_size]; rw [← HN2.out, low_length]
  have zL1 : (strOfNums L1).size = 1 := by rw [strOfNums_size]; rw [← HL1.out]; rfl
  have zA2 : (strOfNums A2).size = 3 := by rw [← tA2, ByteArray.size_append, zA0, zN2]
  have e1 : IntKind.u64.wrap r.no = r.no := by rw [IntKind.wrap_u64]; omega
  have e4 : IntKind.i64.wrap r.slot = r.slot := by rw [IntKind.wrap_i64]; omega
  have e5 : IntKind.i64.wrap r.kind = r.kind := by rw [IntKind.wrap_i64]; omega
  have t1 : (r.kind == 1) = false := by simp; omega
  have t2 : (r.kind == 2) = false := by simp; omega
  have t3 : (r.kind == 3) = false := by simp; omega
  have t4 : (r.kind == 4) = false := by simp; omega
  have t5 : (r.kind == 5) = true := by simp [hk]
  have t6 : (r.kind != 6) = true := by simp; omega
  have u6 : (r.kind == 6) = false := by simp; omega
  clear hm hk
  go_enter Try.func10, Try.ntmps10
  go_upto_region 1 with fail
  generalize w.alloc (.cells r.arr 33) = w1 at y0 yb ⊢
  go_upto_region 3 with (first
    | (refine load_cells rfl 33 (.tmp 1) rfl w.heap.size rfl 33 r.arr y0 238 Try.underlying33 rfl size33 hs1 ?_)
    | (go_at_call 20; refine (HMY.out _).mono ?_; clear HMY; rintro e w3 ⟨rfl, h3⟩; have y1 := y0.below h3 y0.lt; have yb1 := yb.trans (h3.mono yb.size); have c0 := row_at y1 0 _ (R.at0 r)))
  clear y0 yb h3
  go_upto_region 4 with (go_at_call 21; refine (PK.out _).mono ?_; clear PK; rintro e w4 ⟨rfl, h4⟩; have y0 := y1.below h4 y1.lt; have yb := yb1.trans (h4.mono yb1.size))
  clear y1 yb1 h4 c0
  have c0 := row_at y0 0 _ (R.at0 r)
  have c2 := row_at y0 2 _ (R.at2 r)
  go_upto_region 10 with (go_at_call 22; refine (PN.out _).mono ?_; clear PN; rintro e w5 ⟨rfl, h5⟩; have y1 := y0.below h5 y0.lt; have yb1 := yb.trans (h5.mono yb.size); have d0 := row_at y1 0 _ (R.at0 r))
  clear y0 yb h5 c0 c2
  go_upto_region 25 with fail
  clear d0
  have y0 := y1
  have yb := yb1
  clear y1 yb1
  generalize w5 = ww at y0 yb ⊢
  have c4 := row_at y0 231 _ (R.atT r hf.len 4)
  go_wp2_with (go_at_call 21; refine (P1.out _).mono ?_; clear P1; rintro e w6 ⟨rfl, h6⟩)
  go_ret2
  exact ⟨by rw [HS.out, HM.out]; rfl, yb.trans (h6.mono yb.size)⟩

set_option maxRecDepth 20000 in
set_option maxHeartbeats 4000000 in
theorem renc_6 (r : R) (w : World) (hf : r.Fits) (hm : mayR r = true) (hk : r.kind = 6) :
    Calls Try.prog 10 #[.agg r.arr] w fun e w' => e = .returned (.tuple #[.string (encS r), .bool (mayR r)]) ∧ Below w.heap.size w w' := by
  have y0 : Row (w.alloc (.cells r.arr 33)) w.heap.size r.arr 33 := Row.new _ _ _
  have yb : Below w.heap.size w (w.alloc (.cells r.arr 33)) := (Below.refl _ _).alloc (Nat.le_refl _) _
  have hs1 := R.arr_size r hf.len
  have HMY : Hid _ := fun w => rmay_any r w hf
  rw [rmay_is r, hm] at HMY
  have hd := mayR_deltas hm
  have HS : Hid (encS r = strOfNums (encT r)) := by show _ = _; unfold encS; rw [hm]; rfl
  have HM : Hid (mayR r = true) := hm
  have f0 := hf.kind
  have f1 := hf.no
  have f2 := hf.ts
  have f3 := hf.slot
  have f4 := hf.pp
  have f5 := hf.ps
  have PK : Hid _ := fun w => one_any r.kind w hf.kind
  obtain ⟨A0, HA0⟩ : ∃ L, Hid ([r.kind] = L) := ⟨_, rfl⟩
  obtain ⟨L1, HL1⟩ : ∃ L, Hid (low r.ts 4 = L) := ⟨_, rfl⟩
  obtain ⟨T, HT⟩ : ∃ L, Hid (A0 ++ L1 = L) := ⟨_, rfl⟩
  rw [HA0.out] at PK
  have P1 : Hid _ := rput_at r.ts 4 L1 HL1.out (by omega) (by omega) (by decide)
  have HT2 : Hid (encT r = T) := by
    show _ = _
    rw [← HT.out, ← HA0.out, ← HL1.out]
    unfold encT fldT
    rw [if_neg (by omega), if_neg (by omega), if_neg (by omega), if_neg (by omega)]
    rw [low_one _ f0]
  rw [HT2.out] at HS
  have tT : strOfNums A0 ++ strOfNums L1 = strOfNums T := by rw [tx_app, HT.out]
  have zA0 : (strOfNums A0).size = 1 := by rw [strOfNums_size]; rw [← HA0.out]; rfl
  have zL1 : (strOfNums L1).size = 4 := by rw [strOfNums_size]; rw [← HL1.out, low_length]
  have e2 : IntKind.u64.wrap r.ts = r.ts := by rw [IntKind.wrap_u64]; omega
  have e5 : IntKind.i64.wrap r.kind = r.kind := by rw [IntKind.wrap_i64]; omega
  have t1 : (r.kind == 1) = false := by simp; omega
  have t2 : (r.kind == 2) = false := by simp; omega
  have t3 : (r.kind == 3) = false := by simp; omega
  have t4 : (r.kind == 4) = false := by simp; omega
  have t5 : (r.kind == 5) = false := by simp; omega
  have t6 : (r.kind != 6) = false := by simp [hk]
  have u6 : (r.kind == 6) = true := by simp [hk]
  clear hm hk
  go_enter Try.func10, Try.ntmps10
  go_upto_region 1 with fail
  generalize w.alloc (.cells r.arr 33) = w1 at y0 yb ⊢
  go_upto_region 3 with (first
    | (refine load_cells rfl 33 (.tmp 1) rfl w.heap.size rfl 33 r.arr y0 238 Try.underlying33 rfl size33 hs1 ?_)
    | (go_at_call 20; refine (HMY.out _).mono ?_; clear HMY; rintro e w3 ⟨rfl, h3⟩; have y1 := y0.below h3 y0.lt; have yb1 := yb.trans (h3.mono yb.size); have c0 := row_at y1 0 _ (R.at0 r)))
  clear y0 yb h3
  go_upto_region 4 with (go_at_call 21; refine (PK.out _).mono ?_; clear PK; rintro e w4 ⟨rfl, h4⟩; have y0 := y1.below h4 y1.lt; have yb := yb1.trans (h4.mono yb1.size))
  clear y1 yb1 h4 c0
  have c0 := row_at y0 0 _ (R.at0 r)
  have c4 := row_at y0 227 _ (R.atT r hf.len 0)
  go_wp2_with (go_at_call 22; refine (P1.out _).mono ?_; clear P1; rintro e w6 ⟨rfl, h6⟩)
  go_ret2
  exact ⟨by rw [HS.out, HM.out]; rfl, yb.trans (h6.mono yb.size)⟩

set_option maxRecDepth 20000 in
set_option maxHeartbeats 4000000 in
theorem renc_none (r : R) (w : World) (hf : r.Fits) (hm : mayR r = false) :
    Calls Try.prog 10 #[.agg r.arr] w fun e w' => e = .returned (.tuple #[.string (encS r), .bool (mayR r)]) ∧ Below w.heap.size w w' := by
  have y0 : Row (w.alloc (.cells r.arr 33)) w.heap.size r.arr 33 := Row.new _ _ _
  have yb : Below w.heap.size w (w.alloc (.cells r.arr 33)) := (Below.refl _ _).alloc (Nat.le_refl _) _
  have hs1 := R.arr_size r hf.len
  have HMY : Hid _ := fun w => rmay_any r w hf
  rw [rmay_is r, hm] at HMY
  have HS : Hid (encS r = { data := #[] }) := by show _ = _; unfold encS; rw [hm]; rfl
  have HM : Hid (mayR r = false) := hm
  clear hm
  go_enter Try.func10, Try.ntmps10
  go_upto_region 1 with fail
  generalize w.alloc (.cells r.arr 33) = w1 at y0 yb ⊢
  go_wp2_with (first
    | (refine load_cells rfl 33 (.tmp 1) rfl w.heap.size rfl 33 r.arr y0 238 Try.underlying33 rfl size33 hs1 ?_)
    | (go_at_call 20; refine (HMY.out _).mono ?_; clear HMY; rintro e w3 ⟨rfl, h3⟩))
  go_ret2
  exact ⟨by rw [HS.out, HM.out]; rfl, yb.trans (h3.mono yb.size)⟩
theorem renc_any (r : R) (w : World) (hf : r.Fits) :
    Calls Try.prog 10 #[.agg r.arr] w fun e w' => e = .returned (.tuple #[.string (encS r), .bool (mayR r)]) ∧ Below w.heap.size w w' := by
  cases hm : mayR r with
  | false => rw [← hm]; exact renc_none r w hf hm
  | true =>
    rw [← hm]
    have hk : okK r = true := by unfold mayR at hm; simp at hm; exact hm.1
    unfold okK at hk
    simp at hk
    by_cases k1 : r.kind = 1
    · cases hu : r.undo with
      | true => exact renc_1t r w hf hm k1 hu
      | false => exact renc_1f r w hf hm k1 hu
    by_cases k2 : r.kind = 2
    · exact renc_2 r w hf hm k2
    by_cases k3 : r.kind = 3
    · exact renc_3 r w hf hm k3
    by_cases k4 : r.kind = 4
    · exact renc_4 r w hf hm k4
    by_cases k5 : r.kind = 5
    · exact renc_5 r w hf hm k5
    exact renc_6 r w hf hm (by omega)
end Go.Proofs.Ytihjapfgllokgaa
