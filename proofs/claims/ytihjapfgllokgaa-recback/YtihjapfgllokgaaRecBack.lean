/-
  Law RecBack
-/
import Derived.Test.YtihjapfgllokgaaOpn
import Derived.Test.YtihjapfgllokgaaPrc
namespace Go.Proofs.Ytihjapfgllokgaa.recBack
open Go.ChangeShapes Go.WideShapes Go.ChangeAt Go.RowKit
open Go.Deep
set_option linter.unusedVariables false
set_option linter.unusedSimpArgs false

theorem own : ownKnob Try.prog.godebug = none := by kernel_rfl

theorem encT_size {r : R} (hm : mayR r = true) : 1 ≤ (encT r).length ∧ (encT r).length ≤ 301 := by
  have hd := mayR_deltas hm
  have := fldT_length r hd.1 hd.2
  unfold encT
  rw [List.length_append, low_length]
  omega
theorem encT_first (r : R) (hf : r.Fits) : byteAt (strOfNums (encT r)) 0 = r.kind := by
  rw [byteAt_tx (encT_bytes r hf)]
  unfold encT
  rw [low_one _ hf.kind]; rfl
set_option maxRecDepth 20000 in
set_option maxHeartbeats 4000000 in
theorem walk (w : World) (r : R) (s : ByteArray) (hf : r.Fits) (hs : s.size ≤ maxLen) :
    Calls Try.prog 5 #[.agg r.arr, .string s] w fun ex w' => ex = .returned (.bool true) ∧ Below w.heap.size w w' := by
  have hz := zero33
  have hs1 := R.arr_size r hf.len
  have hs0 := R.arr_size R.zero (zs_length _)
  have HE : Hid _ := fun w => enc_any r w hf
  have HD : Hid _ := fun w => dec_any s w hs
  have HAW : Hid _ := fun w => awake_any w
  have heq0 : ∀ w, (Op.equalIn 10000 33 (.agg R.zero.arr) (.agg R.zero.arr)).run Try.prog w = .ok true w := fun w => by rw [equal33 R.zero R.zero (zs_length _) (zs_length _) w, decide_eq_true rfl]
  have r1 : Row (w.alloc (.cells r.arr 33)) w.heap.size r.arr 33 := Row.new _ _ _
  have ab : Below w.heap.size w (w.alloc (.cells r.arr 33)) := (Below.refl _ _).alloc (Nat.le_refl _) _
  cases hm : mayR r with
  | false =>
    rw [show encE r = 1 by unfold encE; rw [hm]; rfl] at HE
    go_enter Try.func5, Try.ntmps5
    go_upto_region 1 with fail
    generalize w.alloc (.cells r.arr 33) = w1 at r1 ab ⊢
    go_upto_region 6 with (first
      | (refine load_cells rfl 33 (.tmp 2) rfl w.heap.size rfl 33 r.arr r1 238 Try.underlying33 rfl size33 hs1 ?_)
      | (go_at_call 9; refine (HE.out _).mono ?_; clear HE; rintro e w3 ⟨rfl, h3⟩; have yb := ab.trans (h3.mono ab.size)))
    clear r1 ab h3
    cases hq : decR s with
    | none =>
      have e1 : gotR s = R.zero := by unfold gotR; rw [hq]; rfl
      have e2 : errR s = 2 := by unfold errR; rw [hq]; rfl
      rw [e1, e2] at HD
      clear e1 e2 hq
      go_upto_region 8 with (first
        | (go_at_call 13; refine (HD.out _).mono ?_; clear HD; rintro e w5 ⟨rfl, h5⟩
           have zb := yb.trans (h5.mono yb.size)
           have q9 : Row (w5.alloc (.cells R.zero.arr 33)) w5.heap.size R.zero.arr 33 := Row.new _ _ _
           have qb := zb.alloc zb.size (.cells R.zero.arr 33))
        | (refine store_cells rfl 33 (.tmp 9) (.tmp 52) rfl w5.heap.size R.zero.arr rfl rfl 33 _ q9 238 size33 hs0 hs0 (R.arr_one _) ?_))
      have z9 := q9.set R.zero.arr
      have zz := below_setRow qb zb.size R.zero.arr
      clear q9 qb zb h5 yb
      generalize (w5.alloc (.cells R.zero.arr 33)).setRow w5.heap.size R.zero.arr = W5 at z9 zz ⊢
      generalize w5.heap.size = g9 at z9 ⊢
      go_wp2_with (first
        | (refine load_cells rfl 33 (.tmp 9) rfl g9 rfl 33 R.zero.arr z9 238 Try.underlying33 rfl size33 hs0 ?_)
        | (refine build_parts rfl 33 #[] rfl [] rfl _ built33 ?_)
        | (go_at_call 12; refine (HAW.out _).mono ?_; clear HAW; rintro e w6 ⟨rfl, h6⟩))
      go_ret
      exact ⟨rfl, zz.trans (h6.mono zz.size)⟩
    | some y =>
      obtain ⟨fy, my, ey⟩ := decR_some hq
      have e1 : gotR s = y := by unfold gotR; rw [hq]; rfl
      have e2 : errR s = 0 := by unfold errR; rw [hq]; rfl
      rw [e1, e2] at HD
      have HE2 : Hid _ := fun w => enc_any y w fy
      rw [show encS y = s by unfold encS; rw [my, if_pos rfl, ey], show encE y = 0 by unfold encE; rw [my, if_pos rfl]] at HE2
      have HM : Hid _ := fun w => may_any y w fy
      rw [my] at HM
      have hsy := R.arr_size y fy.len
      clear e1 e2 hq my ey
      go_upto_region 7 with (first
        | (go_at_call 13; refine (HD.out _).mono ?_; clear HD; rintro e w5 ⟨rfl, h5⟩
           have zb := yb.trans (h5.mono yb.size)
           have q9 : Row (w5.alloc (.cells R.zero.arr 33)) w5.heap.size R.zero.arr 33 := Row.new _ _ _
           have qb := zb.alloc zb.size (.cells R.zero.arr 33))
        | (refine store_cells rfl 33 (.tmp 9) (.tmp 52) rfl w5.heap.size y.arr rfl rfl 33 _ q9 238 size33 hs0 hsy (R.arr_one _) ?_))
      have z9 := q9.set y.arr
      have zz := below_setRow qb zb.size y.arr
      clear q9 qb zb h5 yb
      generalize (w5.alloc (.cells R.zero.arr 33)).setRow w5.heap.size y.arr = W5 at z9 zz ⊢
      generalize w5.heap.size = g9 at z9 ⊢
      go_upto_region 10 with (first
        | (refine load_cells rfl 33 (.tmp 9) rfl g9 rfl 33 y.arr z9 238 Try.underlying33 rfl size33 hsy ?_)
        | (go_at_call 9; refine (HE2.out _).mono ?_; clear HE2; rintro e w6 ⟨rfl, h6⟩; have x9 := z9.below h6 z9.lt; have xb := zz.trans (h6.mono zz.size)))
      clear z9 zz h6
      go_wp2_with (first
        | (refine load_cells_g rfl 33 (.tmp 9) rfl g9 rfl 33 y.arr x9 238 Try.underlying33 rfl size33 hsy ?_)
        | (go_at_call 11; refine (HM.out _).mono ?_; clear HM; rintro e w7 ⟨rfl, h7⟩; have vb := xb.trans (h7.mono xb.size))
        | (go_at_call 12; refine (HAW.out _).mono ?_; clear HAW; rintro e w8 ⟨rfl, h8⟩))
      go_ret
      exact ⟨rfl, vb.trans (h8.mono vb.size)⟩
  | true =>
    have hsz := encT_size hm
    have hfst := encT_first r hf
    have hdr := decR_enc hf hm
    rw [show encE r = 0 by unfold encE; rw [hm]; rfl, show encS r = strOfNums (encT r) by unfold encS; rw [hm]; rfl] at HE
    have HD1 : Hid _ := fun w => dec_any (strOfNums (encT r)) w (by rw [strOfNums_size]; unfold maxLen; omega)
    rw [show gotR (strOfNums (encT r)) = r by unfold gotR; rw [hdr]; rfl, show errR (strOfNums (encT r)) = 0 by unfold errR; rw [hdr]; rfl] at HD1
    rw [← strOfNums_size] at hsz
    generalize strOfNums (encT r) = sa at HE HD1 hsz hfst hdr
    clear hdr hm
    have heq : ∀ w, (Op.equalIn 10000 33 (.agg r.arr) (.agg r.arr)).run Try.prog w = .ok true w := fun w => by rw [equal33 r r hf.len hf.len w, decide_eq_true rfl]
    have h0 : 0 < sa.size := by omega
    have h0i : (0 : Int) < (sa.size : Int) := by omega
    rw [byteAt_in sa 0 h0] at hfst
    obtain ⟨x, hx⟩ : ∃ x, ((sa[0]'h0).toNat) = x := ⟨_, rfl⟩
    rw [hx] at hfst
    have hx1 : ((x : Int) == r.kind) = true := by simpa using hfst
    have hx2 : ((x : Int) != r.kind) = false := by simpa using hfst
    have l1 : ¬ (400 : Int) < (sa.size : Int) := by omega
    have l2 : ¬ (sa.size : Int) < 1 := by omega
    have l3 : ¬ (400 : Int) < sa.size := by omega
    clear hfst
    go_enter Try.func5, Try.ntmps5
    go_upto_region 1 with fail
    generalize w.alloc (.cells r.arr 33) = w1 at r1 ab ⊢
    go_upto_region 3 with (first
      | (refine load_cells rfl 33 (.tmp 2) rfl w.heap.size rfl 33 r.arr r1 238 Try.underlying33 rfl size33 hs1 ?_)
      | (go_at_call 9; refine (HE.out _).mono ?_; clear HE; rintro e w3 ⟨rfl, h3⟩; have x1 := r1.below h3 r1.lt; have xb := ab.trans (h3.mono ab.size)))
    clear r1 ab h3
    go_upto_region 4 with (first
      | (go_at_call 13; refine (HD1.out _).mono ?_; clear HD1; rintro e w4 ⟨rfl, h4⟩
         have u1 := x1.below h4 x1.lt
         have ub := xb.trans (h4.mono xb.size)
         have p1 := u1.alloc (.cells R.zero.arr 33)
         have p7 : Row (w4.alloc (.cells R.zero.arr 33)) w4.heap.size R.zero.arr 33 := Row.new _ _ _
         have pb := ub.alloc ub.size (.cells R.zero.arr 33)
         have hlt := u1.lt)
      | (refine store_cells rfl 33 (.tmp 7) (.tmp 23) rfl w4.heap.size r.arr rfl rfl 33 _ p7 238 size33 hs0 hs1 (R.arr_one _) ?_))
    have y1 := p1.other (g := w4.heap.size) (by omega) r.arr
    have y7 := p7.set r.arr
    have yb := below_setRow pb ub.size r.arr
    clear x1 xb h4 u1 ub p1 p7 pb
    generalize (w4.alloc (.cells R.zero.arr 33)).setRow w4.heap.size r.arr = W4 at y1 y7 yb ⊢
    generalize w4.heap.size = g7 at y7 hlt ⊢
    refine wp_region_held_drew (S := fun w' => Row w' w.heap.size r.arr 33 ∧ Row w' g7 r.arr 33 ∧ Below w.heap.size w w') (by kernel_rfl) ⟨y1, y7, yb.drew⟩ fun hS => ?_
    clear y1 y7 yb
    refine wpAnyH_take (i := 0) (v := .int .i64 0) rfl (by kernel_rfl) (by kernel_rfl) (by kernel_rfl) (fun _ _ _ h => h) (Or.inl ⟨by rfl, fun w _ => by go_simp⟩) hS ?_
    try simp only [Act.put, List.getElem_toArray, List.getElem_cons_zero, List.getElem_cons_succ, List.setIfInBounds_toArray, List.set_cons_zero, List.set_cons_succ]
    refine wpAnyH_take (i := 1) (v := .bool false) rfl (by kernel_rfl) (by kernel_rfl) (by kernel_rfl) (fun _ _ _ h => h) (Or.inl ⟨by rfl, fun w _ => by go_simp⟩) hS ?_
    try simp only [Act.put, List.getElem_toArray, List.getElem_cons_zero, List.getElem_cons_succ, List.setIfInBounds_toArray, List.set_cons_zero, List.set_cons_succ]
    refine wpAnyH_take (i := 2) (v := .bool false) rfl (by kernel_rfl) (by kernel_rfl) (by kernel_rfl) (fun _ _ _ h => h) (Or.inl ⟨by rfl, fun w _ => by go_simp⟩) hS ?_
    try simp only [Act.put, List.getElem_toArray, List.getElem_cons_zero, List.getElem_cons_succ, List.setIfInBounds_toArray, List.set_cons_zero, List.set_cons_succ]
    refine wpAnyH_take (i := 3) (v := .agg r.arr) rfl (by kernel_rfl) (by kernel_rfl) (by kernel_rfl) (fun _ _ _ h => h) (yields_cells (by rfl) 33 (.tmp 7) rfl g7 rfl 33 r.arr (fun w h => h.2.1) 238 Try.underlying33 rfl size33 hs1) hS ?_
    try simp only [Act.put, List.getElem_toArray, List.getElem_cons_zero, List.getElem_cons_succ, List.setIfInBounds_toArray, List.set_cons_zero, List.set_cons_succ]
    refine wpAnyH_take (i := 4) (v := .agg r.arr) rfl (by kernel_rfl) (by kernel_rfl) (by kernel_rfl) (fun _ _ _ h => h) (yields_cells (by rfl) 33 (.tmp 2) rfl w.heap.size rfl 33 r.arr (fun w h => h.1) 238 Try.underlying33 rfl size33 hs1) hS ?_
    try simp only [Act.put, List.getElem_toArray, List.getElem_cons_zero, List.getElem_cons_succ, List.setIfInBounds_toArray, List.set_cons_zero, List.set_cons_succ]
    refine wpAnyH_take (i := 5) (v := .bool false) rfl (by kernel_rfl) (by kernel_rfl) (by kernel_rfl) (fun _ _ _ h => h) (yields_neq (by rfl) 33 33 (.tmp 28) (.tmp 29) rfl r.arr r.arr rfl rfl (by kernel_rfl) true heq) hS ?_
    try simp only [Act.put, List.getElem_toArray, List.getElem_cons_zero, List.getElem_cons_succ, List.setIfInBounds_toArray, List.set_cons_zero, List.set_cons_succ]
    refine wpAnyH_take (i := 6) (v := .bool false) rfl (by kernel_rfl) (by kernel_rfl) (by kernel_rfl) (fun _ _ _ h => h) (Or.inl ⟨by rfl, fun w _ => by go_simp⟩) hS ?_
    try simp only [Act.put, List.getElem_toArray, List.getElem_cons_zero, List.getElem_cons_succ, List.setIfInBounds_toArray, List.set_cons_zero, List.set_cons_succ]
    refine wpAnyH_take (i := 7) (v := .bool false) rfl (by kernel_rfl) (by kernel_rfl) (by kernel_rfl) (fun _ _ _ h => h) (Or.inl ⟨by rfl, fun w _ => by go_simp⟩) hS ?_
    try simp only [Act.put, List.getElem_toArray, List.getElem_cons_zero, List.getElem_cons_succ, List.setIfInBounds_toArray, List.set_cons_zero, List.set_cons_succ]
    refine wpAnyH_take (i := 8) (v := .string sa) rfl (by kernel_rfl) (by kernel_rfl) (by kernel_rfl) (fun _ _ _ h => h) (Or.inl ⟨by rfl, fun w _ => by go_simp⟩) hS ?_
    try simp only [Act.put, List.getElem_toArray, List.getElem_cons_zero, List.getElem_cons_succ, List.setIfInBounds_toArray, List.set_cons_zero, List.set_cons_succ]
    refine wpAnyH_take (i := 9) (v := .int .i64 sa.size) rfl (by kernel_rfl) (by kernel_rfl) (by kernel_rfl) (fun _ _ _ h => h) (Or.inl ⟨by rfl, fun w _ => by go_simp⟩) hS ?_
    try simp only [Act.put, List.getElem_toArray, List.getElem_cons_zero, List.getElem_cons_succ, List.setIfInBounds_toArray, List.set_cons_zero, List.set_cons_succ]
    refine wpAnyH_take (i := 10) (v := .bool false) rfl (by kernel_rfl) (by kernel_rfl) (by kernel_rfl) (fun _ _ _ h => h) (Or.inl ⟨by rfl, fun w _ => by go_simp⟩) hS ?_
    try simp only [Act.put, List.getElem_toArray, List.getElem_cons_zero, List.getElem_cons_succ, List.setIfInBounds_toArray, List.set_cons_zero, List.set_cons_succ]
    refine wpAnyH_take (i := 11) (v := .bool false) rfl (by kernel_rfl) (by kernel_rfl) (by kernel_rfl) (fun _ _ _ h => h) (Or.inl ⟨by rfl, fun w _ => by go_simp⟩) hS ?_
    try simp only [Act.put, List.getElem_toArray, List.getElem_cons_zero, List.getElem_cons_succ, List.setIfInBounds_toArray, List.set_cons_zero, List.set_cons_succ]
    refine wpAnyH_take (i := 12) (v := .bool false) rfl (by kernel_rfl) (by kernel_rfl) (by kernel_rfl) (fun _ _ _ h => h) (Or.inl ⟨by rfl, fun w _ => by go_simp⟩) hS ?_
    try simp only [Act.put, List.getElem_toArray, List.getElem_cons_zero, List.getElem_cons_succ, List.setIfInBounds_toArray, List.set_cons_zero, List.set_cons_succ]
    refine wpAnyH_take (i := 13) (v := .string sa) rfl (by kernel_rfl) (by kernel_rfl) (by kernel_rfl) (fun _ _ _ h => h) (Or.inl ⟨by rfl, fun w _ => by go_simp⟩) hS ?_
    try simp only [Act.put, List.getElem_toArray, List.getElem_cons_zero, List.getElem_cons_succ, List.setIfInBounds_toArray, List.set_cons_zero, List.set_cons_succ]
    refine wpAnyH_take (i := 14) (v := .int .i64 sa.size) rfl (by kernel_rfl) (by kernel_rfl) (by kernel_rfl) (fun _ _ _ h => h) (Or.inl ⟨by rfl, fun w _ => by go_simp⟩) hS ?_
    try simp only [Act.put, List.getElem_toArray, List.getElem_cons_zero, List.getElem_cons_succ, List.setIfInBounds_toArray, List.set_cons_zero, List.set_cons_succ]
    refine wpAnyH_take (i := 15) (v := .bool false) rfl (by kernel_rfl) (by kernel_rfl) (by kernel_rfl) (fun _ _ _ h => h) (Or.inl ⟨by rfl, fun w _ => by go_simp⟩) hS ?_
    try simp only [Act.put, List.getElem_toArray, List.getElem_cons_zero, List.getElem_cons_succ, List.setIfInBounds_toArray, List.set_cons_zero, List.set_cons_succ]
    refine wpAnyH_take (i := 16) (v := .bool false) rfl (by kernel_rfl) (by kernel_rfl) (by kernel_rfl) (fun _ _ _ h => h) (Or.inl ⟨by rfl, fun w _ => by go_simp⟩) hS ?_
    try simp only [Act.put, List.getElem_toArray, List.getElem_cons_zero, List.getElem_cons_succ, List.setIfInBounds_toArray, List.set_cons_zero, List.set_cons_succ]
    refine wpAnyH_take (i := 17) (v := .bool false) rfl (by kernel_rfl) (by kernel_rfl) (by kernel_rfl) (fun _ _ _ h => h) (Or.inl ⟨by rfl, fun w _ => by go_simp⟩) hS ?_
    try simp only [Act.put, List.getElem_toArray, List.getElem_cons_zero, List.getElem_cons_succ, List.setIfInBounds_toArray, List.set_cons_zero, List.set_cons_succ]
    refine wpAnyH_take (i := 18) (v := .string sa) rfl (by kernel_rfl) (by kernel_rfl) (by kernel_rfl) (fun _ _ _ h => h) (Or.inl ⟨by rfl, fun w _ => by go_simp⟩) hS ?_
    try simp only [Act.put, List.getElem_toArray, List.getElem_cons_zero, List.getElem_cons_succ, List.setIfInBounds_toArray, List.set_cons_zero, List.set_cons_succ]
    refine wpAnyH_take (i := 19) (v := .int .u8 (x : Nat)) rfl (by kernel_rfl) (by kernel_rfl) (by kernel_rfl) (fun _ _ _ h => h) (Or.inl ⟨by rfl, fun w _ => by go_simp⟩) hS ?_
    try simp only [Act.put, List.getElem_toArray, List.getElem_cons_zero, List.getElem_cons_succ, List.setIfInBounds_toArray, List.set_cons_zero, List.set_cons_succ]
    refine wpAnyH_take (i := 20) (v := .pointer (some ⟨w.heap.size, 0, none⟩)) rfl (by kernel_rfl) (by kernel_rfl) (by kernel_rfl) (fun _ _ _ h => h) (Or.inl ⟨by rfl, fun w _ => by go_simp⟩) hS ?_
    try simp only [Act.put, List.getElem_toArray, List.getElem_cons_zero, List.getElem_cons_succ, List.setIfInBounds_toArray, List.set_cons_zero, List.set_cons_succ]
    refine wpAnyH_take (i := 21) (v := .int .u8 r.kind) rfl (by kernel_rfl) (by kernel_rfl) (by kernel_rfl) (fun _ _ _ h => h) (Or.inl ⟨by rfl, fun w h => by have c := row_at h.1 0 _ (R.at0 r); go_simp⟩) hS ?_
    try simp only [Act.put, List.getElem_toArray, List.getElem_cons_zero, List.getElem_cons_succ, List.setIfInBounds_toArray, List.set_cons_zero, List.set_cons_succ]
    refine wpAnyH_take (i := 22) (v := .bool false) rfl (by kernel_rfl) (by kernel_rfl) (by kernel_rfl) (fun _ _ _ h => h) (Or.inl ⟨by rfl, fun w _ => by go_simp⟩) hS ?_
    try simp only [Act.put, List.getElem_toArray, List.getElem_cons_zero, List.getElem_cons_succ, List.setIfInBounds_toArray, List.set_cons_zero, List.set_cons_succ]
    refine wpAnyH_take (i := 23) (v := .bool false) rfl (by kernel_rfl) (by kernel_rfl) (by kernel_rfl) (fun _ _ _ h => h) (Or.inl ⟨by rfl, fun w _ => by go_simp⟩) hS ?_
    try simp only [Act.put, List.getElem_toArray, List.getElem_cons_zero, List.getElem_cons_succ, List.setIfInBounds_toArray, List.set_cons_zero, List.set_cons_succ]
    refine wpAnyH_done (by kernel_rfl) ?_ _
    go_upto_region 6 with fail
    have yb := hS.2.2
    clear hS
    clear hx1 hx2 l1 l2 l3 hx h0i
    cases hq : decR s with
    | none =>
      have e1 : gotR s = R.zero := by unfold gotR; rw [hq]; rfl
      have e2 : errR s = 2 := by unfold errR; rw [hq]; rfl
      rw [e1, e2] at HD
      clear e1 e2 hq
      go_upto_region 8 with (first
        | (go_at_call 13; refine (HD.out _).mono ?_; clear HD; rintro e w5 ⟨rfl, h5⟩
           have zb := yb.trans (h5.mono yb.size)
           have q9 : Row (w5.alloc (.cells R.zero.arr 33)) w5.heap.size R.zero.arr 33 := Row.new _ _ _
           have qb := zb.alloc zb.size (.cells R.zero.arr 33))
        | (refine store_cells rfl 33 (.tmp 9) (.tmp 52) rfl w5.heap.size R.zero.arr rfl rfl 33 _ q9 238 size33 hs0 hs0 (R.arr_one _) ?_))
      have z9 := q9.set R.zero.arr
      have zz := below_setRow qb zb.size R.zero.arr
      clear q9 qb zb h5 yb
      generalize (w5.alloc (.cells R.zero.arr 33)).setRow w5.heap.size R.zero.arr = W5 at z9 zz ⊢
      generalize w5.heap.size = g9 at z9 ⊢
      go_wp2_with (first
        | (refine load_cells rfl 33 (.tmp 9) rfl g9 rfl 33 R.zero.arr z9 238 Try.underlying33 rfl size33 hs0 ?_)
        | (refine build_parts rfl 33 #[] rfl [] rfl _ built33 ?_)
        | (go_at_call 12; refine (HAW.out _).mono ?_; clear HAW; rintro e w6 ⟨rfl, h6⟩))
      go_ret
      exact ⟨rfl, zz.trans (h6.mono zz.size)⟩
    | some y =>
      obtain ⟨fy, my, ey⟩ := decR_some hq
      have e1 : gotR s = y := by unfold gotR; rw [hq]; rfl
      have e2 : errR s = 0 := by unfold errR; rw [hq]; rfl
      rw [e1, e2] at HD
      have HE2 : Hid _ := fun w => enc_any y w fy
      rw [show encS y = s by unfold encS; rw [my, if_pos rfl, ey], show encE y = 0 by unfold encE; rw [my, if_pos rfl]] at HE2
      have HM : Hid _ := fun w => may_any y w fy
      rw [my] at HM
      have hsy := R.arr_size y fy.len
      clear e1 e2 hq my ey
      go_upto_region 7 with (first
        | (go_at_call 13; refine (HD.out _).mono ?_; clear HD; rintro e w5 ⟨rfl, h5⟩
           have zb := yb.trans (h5.mono yb.size)
           have q9 : Row (w5.alloc (.cells R.zero.arr 33)) w5.heap.size R.zero.arr 33 := Row.new _ _ _
           have qb := zb.alloc zb.size (.cells R.zero.arr 33))
        | (refine store_cells rfl 33 (.tmp 9) (.tmp 52) rfl w5.heap.size y.arr rfl rfl 33 _ q9 238 size33 hs0 hsy (R.arr_one _) ?_))
      have z9 := q9.set y.arr
      have zz := below_setRow qb zb.size y.arr
      clear q9 qb zb h5 yb
      generalize (w5.alloc (.cells R.zero.arr 33)).setRow w5.heap.size y.arr = W5 at z9 zz ⊢
      generalize w5.heap.size = g9 at z9 ⊢
      go_upto_region 10 with (first
        | (refine load_cells rfl 33 (.tmp 9) rfl g9 rfl 33 y.arr z9 238 Try.underlying33 rfl size33 hsy ?_)
        | (go_at_call 9; refine (HE2.out _).mono ?_; clear HE2; rintro e w6 ⟨rfl, h6⟩; have x9 := z9.below h6 z9.lt; have xb := zz.trans (h6.mono zz.size)))
      clear z9 zz h6
      go_wp2_with (first
        | (refine load_cells_g rfl 33 (.tmp 9) rfl g9 rfl 33 y.arr x9 238 Try.underlying33 rfl size33 hsy ?_)
        | (go_at_call 11; refine (HM.out _).mono ?_; clear HM; rintro e w7 ⟨rfl, h7⟩; have vb := xb.trans (h7.mono xb.size))
        | (go_at_call 12; refine (HAW.out _).mono ?_; clear HAW; rintro e w8 ⟨rfl, h8⟩))
      go_ret
      exact ⟨rfl, vb.trans (h8.mono vb.size)⟩

set_option maxRecDepth 100000 in
theorem lifted (os : Os) (started : os.Started) (H : Type) (enc : TypeId × Value → H) :
    ReturnsInHanded {} Try.checked os 5 .any (Rows.recBackSpec.pre6 enc Try.prog Try.f5 Rows.recBackRow.domain false) (Rows.recBackSpec.post enc Try.prog Try.f5 false true false false) := by
  refine returnsInHanded_of_change_sized (C := Try.checked) own started (by kernel_rfl) Try.func5
    (ChangeSpec.witness6 (enc := enc) (C := Try.checked) false ⟨#[], #[.agg R.zero.arr, .string ByteArray.empty], []⟩ 8 (by kernel_rfl) (by kernel_rfl) (by kernel_rfl) (by kernel_rfl)) ?_
  intro W base args ds gs before hval0 hW hcnd hsz0 _
  have hval : ∀ (j : Nat) t v, Try.f5.params[j]? = some t → args[j]? = some v → Value.okWide Try.prog W .any base t v := hval0
  have hW' := hW
  obtain ⟨p, q, hA0, hV, rfl, hfz, hnd⟩ := hW
  have hA : DataW.TrodAll enc Try.prog W 0 (fun _ => true) true Try.f5.params.toList args.toList ds p := hA0
  have hsz : (DataW.weightsEach Try.prog (Try.f5.params.toList ++ []) (ds ++ gs)).all (· ≤ reachBytes) = true := hsz0
  rw [Try.params5] at hA hval hsz
  obtain ⟨v0, vs0, d0, ds0, p0, q0, hargs, rfl, rfl, h0, r0⟩ := trodAll_cons hA
  obtain ⟨v1, vs1, d1, ds1, p1, q1, rfl, rfl, rfl, h1, r1⟩ := trodAll_cons r0
  obtain ⟨rfl, rfl, rfl⟩ := trodAll_nil r1
  obtain rfl : args = #[v0, v1] := by cases args; simp_all
  obtain ⟨rfl, rfl⟩ := trodVars_none hV
  simp only [List.append_nil] at hsz
  have hlt : ∀ x ∈ (p0 ++ (p1 ++ [])), x.block < W.heap.size := fun x hx => hW'.lt x (by simpa using hx)
  have hw0 : (d0.weights Try.prog 33).all (· ≤ reachBytes) = true := List.all_eq_true.2 fun m hm => List.all_eq_true.1 hsz m (by simp [DataW.weightsEach, hm])
  have hw1 : (d1.weights Try.prog 9).all (· ≤ reachBytes) = true := List.all_eq_true.2 fun m hm => List.all_eq_true.1 hsz m (by simp [DataW.weightsEach, hm])
  have k0 := h0
  have k1 := h1
  obtain ⟨a0, rfl, w0⟩ := open_recv (hval 0 33 v0 rfl rfl) h0
  obtain ⟨a1, rfl, rfl, rfl, w1⟩ := Go.ChangeMaps.open_string Try.underlying9 (hval 1 9 v1 rfl rfl) h1
  clear hA0 hval0
  simp only [List.append_nil] at hW'
  refine (walk W a0 a1 w0 w1).mono fun e W' ⟨he, hg⟩ => ?_
  subst he
  exact ⟨_, rfl, ⟨_, _, _, [], (p0 ++ ([] ++ [])), [], hW', (trodAll_cons_mk (shut_bool Try.underlying4 _) trodAll_mk0), (trodAll_cons_mk (Below.trod laidOut (by kernel_rfl) (of_decide_eq_true (by kernel_rfl)) k0 hg (fun x hx => hlt x (by simp [hx]))) (trodAll_cons_mk (Below.trod laidOut (by kernel_rfl) (of_decide_eq_true (by kernel_rfl)) k1 hg (fun x hx => (nomatch hx))) trodAll_mk0)), rfl,
    hg.frame _, fun h => by cases h⟩⟩

theorem over : Rows.recBackRow.holds Try.pinned (OpenSpec.ofChange Rows.recBackSpec) :=
  OpenClaim.holds_of_wide 5 Try.f5 rfl rfl rfl rfl rfl rfl rfl ⟨rfl, rfl, rfl, rfl, rfl⟩ rfl rfl rfl rfl rfl (by kernel_rfl) Try.func5 (by kernel_rfl)
    (of_decide_eq_true (by kernel_rfl)) (by unfold Func.isWrapper; first | (rw [if_pos (by decide +kernel)]; kernel_rfl) | (rw [if_neg (by decide +kernel)]; exact ⟨rfl, rfl⟩))
    (fun os started H enc _ => lifted os started H enc)

/-- The statement. -/
theorem proved : Rows.RecBackSaid :=
  over
#print axioms proved
end Go.Proofs.Ytihjapfgllokgaa.recBack
