/-
  Proved here: a reader that takes a record (rec.reader.rec).
-/
import Derived.Test.YtihjapfgllokgaaRdo
namespace Go.Proofs.Ytihjapfgllokgaa
open Go.ChangeShapes Go.WideShapes Go.ChangeAt Go.RowKit
set_option linter.unusedVariables false
set_option linter.unusedSimpArgs false

theorem pFlag_at {s : ByteArray} {a : Nat} {v : Bool} {b : Nat} (h : pFlag s a = some (v, b)) : b = a + 1 := by
  unfold pFlag at h
  cases h1 : pN s 1 a with
  | none => simp [h1] at h
  | some x =>
    obtain ⟨p, c⟩ := x
    simp only [h1] at h
    have e1 := (pN_some h1).2.1
    split at h
    · simp at h; omega
    · cases h
theorem R.set1 (r : R) (u : Bool) : r.arr.setIfInBounds 1 (.bool u) = R.arr { r with undo := u } := by simp [R.arr, R.cells, R.tail]
def pRec (s : ByteArray) (a : Nat) : Option (R × Nat) :=
  (pN s 1 a).bind fun x =>
    if x.1 = 1 then (pFlag s x.2).bind fun u => (pN s 2 u.2).bind fun n => (pImg s n.2).bind fun i => some ({ R.zero with kind := 1, undo := u.1, no := n.1, img := i.1 }, i.2)
    else if x.1 = 2 then (pN s 2 x.2).bind fun n => (pN s 4 n.2).bind fun t => (pRef s t.2).bind fun f => (pSized s 66 f.2).bind fun d => some ({ R.zero with kind := 2, no := n.1, ts := t.1, pp := f.1.1, ps := f.1.2, delta := d.1 }, d.2)
    else if x.1 = 3 then (pN s 2 x.2).bind fun n => (pN s 1 n.2).bind fun l => (pOld s l.2).bind fun o => some ({ R.zero with kind := 3, undo := true, no := n.1, slot := l.1, old := o.1 }, o.2)
    else if x.1 = 4 then (pN s 2 x.2).bind fun n => (pN s 1 n.2).bind fun l => some ({ R.zero with kind := 4, undo := true, no := n.1, slot := l.1 }, l.2)
    else if x.1 = 5 then (pN s 2 x.2).bind fun n => (pN s 1 n.2).bind fun l => some ({ R.zero with kind := 5, undo := true, no := n.1, slot := l.1 }, l.2)
    else if x.1 = 6 then (pN s 4 x.2).bind fun t => some ({ R.zero with kind := 6, ts := t.1 }, t.2)
    else none
def eRc (r : R) : Value := .agg r.arr
set_option maxRecDepth 20000 in
set_option maxHeartbeats 8000000 in
theorem rec_read (g : Nat) (s : ByteArray) (a : Nat) (w : World) (h : Rd w g s a) (hs : s.size ≤ maxLen) (ha : a ≤ 1000) :
    Calls Try.prog 46 #[.pointer (some ⟨g, 0, none⟩)] w fun e w' => Got w g s eRc (pRec s a) e w' := by
  have hgl := h.lt
  have hz := zero33
  have HMU : Hid _ := fun b w => must_any (.pointer (some ⟨g, 0, none⟩)) b w
  have ra : Rd (w.alloc (.cells R.zero.arr 33)) g s a := Row.alloc h _
  have xa : Row (w.alloc (.cells R.zero.arr 33)) w.heap.size R.zero.arr 33 := Row.new _ _ _
  have ga : w.grownBy (w.alloc (.cells R.zero.arr 33)) (some g) := World.grownBy_alloc w _ _
  have HC : Hid _ := fun w r => number_any g s a 1 w r hs (by omega) (by decide)
  unfold eN at HC
  obtain ⟨PP, HP⟩ : ∃ P : Ending → World → Prop, Hid (P = fun e w' => Got w g s eRc (pRec s a) e w') := ⟨_, rfl⟩
  rw [show (fun e w' => Got w g s eRc (pRec s a) e w') = PP from HP.out.symm]
  go_enter Try.func46, Try.ntmps46
  go_upto_region 1 with fail
  generalize w.alloc (.cells R.zero.arr 33) = w9 at ra xa ga ⊢
  cases hqk : pN s 1 a with
  | none =>
    rw [hqk] at HC
    have HRN : Hid (∀ w', w.grownBy w' (some g) → PP (.panicked gup) w') := fun w' gr => by
      rw [HP.out]; simp only [show pRec s a = none from by unfold pRec; simp [hqk]]; exact ⟨rfl, gr⟩
    go_wp2_with (go_at_call 66; refine (HC.out _ ra).mono ?_; clear HC; rintro e wn ⟨rfl, gn⟩)
    exact ⟨rfl, HRN.out _ (grown_trans ga gn)⟩
  | some x =>
    obtain ⟨k, p0⟩ := x
    rw [hqk] at HC
    have fk := pN_fits hqk
    rw [show (2 : Int) ^ (8 * 1) = 256 by decide] at fk
    have hp0 := (pN_some hqk).2.1
    have wk : k % 256 = k := by omega
    have hbk := built33one k
    go_upto_region 2 with (first
      | (go_at_call 66; refine (HC.out _ ra).mono ?_; clear HC; rintro e wn ⟨rfl, rn, gn⟩
         have q1 := (Row.grown xa gn (fun q => by cases q; omega)).alloc (.cells R.zero.arr 33)
         have q2 : Row (wn.alloc (.cells R.zero.arr 33)) wn.heap.size R.zero.arr 33 := Row.new _ _ _
         have qr : Rd (wn.alloc (.cells R.zero.arr 33)) g s p0 := Row.alloc rn _
         have qg := grown_trans (grown_trans ga gn) (World.grownBy_alloc wn (.cells R.zero.arr 33) (some g))
         have hg3 := (Row.grown xa gn (fun q => by cases q; omega)).lt)
      | (refine build_parts rfl 33 #[(0, .tmp 6)] rfl [(0, .int .u8 k)] rfl _ hbk ?_)
      | (refine store_cells rfl 33 (.tmp 3) (.tmp 7) rfl wn.heap.size (R.arr { R.zero with kind := k }) rfl rfl 33 _ q2 238 size33 (R.arr_size _ (zs_length _)) (R.arr_size _ (zs_length _)) (R.arr_one _) ?_))
    have x1_0 := q1.other (g := wn.heap.size) (by omega) (R.arr { R.zero with kind := k })
    have x2_0 := q2.set (R.arr { R.zero with kind := k })
    have r0 : Rd _ g s p0 := qr.other (k := wn.heap.size) (by omega) (R.arr { R.zero with kind := k })
    have gr0 := grown_setRow qg hgl (k := wn.heap.size) (by omega) (R.arr { R.zero with kind := k })
    clear ra xa ga rn gn q1 q2 qr qg h
    generalize (wn.alloc (.cells R.zero.arr 33)).setRow wn.heap.size (R.arr { R.zero with kind := k }) = W0 at x1_0 x2_0 r0 gr0 ⊢
    generalize wn.heap.size = g3 at x2_0 hg3 ⊢
    by_cases hk1 : k = 1
    · subst hk1
      have k0 := row_at x2_0 0 _ (R.at0 _)
      go_upto_region 5 with fail
      clear k0
      have HC0 : Hid _ := fun w r => flag_read g s p0 w r hs (by omega)
      unfold eB at HC0
      cases hq0 : pFlag s p0 with
      | none =>
        rw [hq0] at HC0
        have HRN : Hid (∀ w', w.grownBy w' (some g) → PP (.panicked gup) w') := fun w' gr => by
          rw [HP.out]; simp only [show pRec s a = none from by unfold pRec; simp [hqk, hq0]]; exact ⟨rfl, gr⟩
        go_wp2_with (go_at_call 67; refine (HC0.out _ r0).mono ?_; clear HC0; rintro e wn ⟨rfl, gn⟩)
        exact ⟨rfl, HRN.out _ (grown_trans gr0 gn)⟩
      | some x =>
        obtain ⟨un, p1⟩ := x
        rw [hq0] at HC0
        have hb_p1 := pFlag_at hq0
        go_upto_region 6 with (first
          | (go_at_call 67; refine (HC0.out _ r0).mono ?_; clear HC0; rintro e wn ⟨rfl, rn, gn⟩; have x2n := Row.grown x2_0 gn (fun q => by cases q; omega); have e1 := row_at x2n 1 _ (R.at1 _); have f1 := row_frozen x2n 1))
        have x2_1 := (row_set x2n 1 (.bool un))
        rw [R.set1] at x2_1
        simp only at x2_1
        have x1_1 := (row_setCell_other (Row.grown x1_0 gn (fun q => by cases q; omega)) (g := g3) (by omega) 1 (.bool un))
        have r1 : Rd (wn.setCell ⟨g3, 1, none⟩ (.bool un)) g s p1 := (row_setCell_other rn (g := g3) (by omega) 1 (.bool un))
        have gr1 := (grown_setCellN (grown_trans gr0 gn) (k := g3) (by omega) 1 (.bool un))
        clear x1_0 x2_0 r0 gr0 rn gn x2n e1 f1
        generalize (wn.setCell ⟨g3, 1, none⟩ (.bool un)) = W1 at x1_1 x2_1 r1 gr1 ⊢
        have HC1 : Hid _ := fun w r => number_any g s p1 2 w r hs (by omega) (by decide)
        unfold eN at HC1
        cases hq1 : pN s 2 p1 with
        | none =>
          rw [hq1] at HC1
          have HRN : Hid (∀ w', w.grownBy w' (some g) → PP (.panicked gup) w') := fun w' gr => by
            rw [HP.out]; simp only [show pRec s a = none from by unfold pRec; simp [hqk, hq0, hq1]]; exact ⟨rfl, gr⟩
          go_wp2_with (go_at_call 66; refine (HC1.out _ r1).mono ?_; clear HC1; rintro e wn ⟨rfl, gn⟩)
          exact ⟨rfl, HRN.out _ (grown_trans gr1 gn)⟩
        | some x =>
          obtain ⟨no, p2⟩ := x
          rw [hq1] at HC1
          have fv_no := pN_fits hq1
          rw [show (2 : Int) ^ (8 * 2) = 65536 by decide] at fv_no
          have hb_p2 := (pN_some hq1).2.1
          have w_no : no % 65536 = no := by omega
          go_upto_region 7 with (first
            | (go_at_call 66; refine (HC1.out _ r1).mono ?_; clear HC1; rintro e wn ⟨rfl, rn, gn⟩; have x2n := Row.grown x2_1 gn (fun q => by cases q; omega); have e2 := row_at x2n 2 _ (R.at2 _); have f2 := row_frozen x2n 2))
          have x2_2 := (row_set x2n 2 (.int .u16 no))
          rw [R.set2] at x2_2
          simp only at x2_2
          have x1_2 := (row_setCell_other (Row.grown x1_1 gn (fun q => by cases q; omega)) (g := g3) (by omega) 2 (.int .u16 no))
          have r2 : Rd (wn.setCell ⟨g3, 2, none⟩ (.int .u16 no)) g s p2 := (row_setCell_other rn (g := g3) (by omega) 2 (.int .u16 no))
          have gr2 := (grown_setCellN (grown_trans gr1 gn) (k := g3) (by omega) 2 (.int .u16 no))
          clear x1_1 x2_1 r1 gr1 rn gn x2n e2 f2
          generalize (wn.setCell ⟨g3, 2, none⟩ (.int .u16 no)) = W2 at x1_2 x2_2 r2 gr2 ⊢
          have HC2 : Hid _ := fun w r => image_read g s p2 w r hs (by omega)
          unfold eI at HC2
          cases hq2 : pImg s p2 with
          | none =>
            rw [hq2] at HC2
            have HRN : Hid (∀ w', w.grownBy w' (some g) → PP (.panicked gup) w') := fun w' gr => by
              rw [HP.out]; simp only [show pRec s a = none from by unfold pRec; simp [hqk, hq0, hq1, hq2]]; exact ⟨rfl, gr⟩
            go_wp2_with (go_at_call 68; refine (HC2.out _ r2).mono ?_; clear HC2; rintro e wn ⟨rfl, gn⟩)
            exact ⟨rfl, HRN.out _ (grown_trans gr2 gn)⟩
          | some x =>
            obtain ⟨im, p3⟩ := x
            rw [hq2] at HC2
            have hb_p3 := (pImg_at hq2).1
            have hil := (pImg_at hq2).2
            go_upto_region 20 with (first
              | (go_at_call 68; refine (HC2.out _ r2).mono ?_; clear HC2; rintro e wn ⟨rfl, rn, gn⟩; have x2n := Row.grown x2_2 gn (fun q => by cases q; omega); have it : wn.there g3 3 224 := there_row x2n (R.arr_size _ (zs_length _)) (by decide))
              | (refine wpList_store_mid rfl 26 (.tmp 25) (.tmp 24) rfl g3 3 (bs im) rfl rfl (by rw [bs_size, hil]; exact it) (by rw [size26, bs_size, hil]) (bs_one _) ?_))
            have x2_3' := row_setCells x2n (im.map (Value.int .u8)) 3
            rw [R.setImg _ (zs_length _) _ hil] at x2_3'
            simp only at x2_3'
            have x2_3 : Row (wn.setCells g3 3 (bs im).toList) g3 _ 33 := x2_3'
            have x1_3 : Row (wn.setCells g3 3 (bs im).toList) _ _ _ := row_setCells_other (Row.grown x1_2 gn (fun q => by cases q; omega)) (g := g3) (by omega) (im.map (Value.int .u8)) 3
            have r3 : Rd (wn.setCells g3 3 (bs im).toList) g s p3 := row_setCells_other rn (g := g3) (by omega) (im.map (Value.int .u8)) 3
            have gr3 : w.grownBy (wn.setCells g3 3 (bs im).toList) (some g) := grown_setCellsN (grown_trans gr2 gn) (k := g3) (by omega) (im.map (Value.int .u8)) 3
            clear x1_2 x2_2 r2 gr2 rn gn x2n it x2_3'
            try simp only [Act.put]
            generalize wn.setCells g3 3 (bs im).toList = W3 at x1_3 x2_3 r3 gr3 ⊢
            have HRS : Hid (∀ w', Rd w' g s p3 → w.grownBy w' (some g) → PP (.returned (.agg (R.arr ({ R.zero with kind := 1, undo := un, no := no, img := im })))) w') := fun w' r gr => by
              rw [HP.out]; simp only [show pRec s a = some (({ R.zero with kind := 1, undo := un, no := no, img := im }), p3) from by unfold pRec; simp [hqk, hq0, hq1, hq2]]; exact ⟨rfl, r, gr⟩
            have k0 := row_at x2_3 0 _ (R.at0 _)
            go_upto_region 22 with fail
            clear k0
            have hsz9 : (R.arr ({ R.zero with kind := 1, undo := un, no := no, img := im })).size = 238 := R.arr_size ({ R.zero with kind := 1, undo := un, no := no, img := im }) hil
            go_wp2_with (first
              | (refine load_cells rfl 33 (.tmp 3) rfl g3 rfl 33 (R.arr ({ R.zero with kind := 1, undo := un, no := no, img := im })) x2_3 238 Try.underlying33 rfl size33 hsz9 ?_)
              | (refine store_cells rfl 33 (.tmp 2) (.tmp 68) rfl w.heap.size (R.arr ({ R.zero with kind := 1, undo := un, no := no, img := im })) rfl rfl 33 _ x1_3 238 size33 (R.arr_size _ (zs_length _)) hsz9 (R.arr_one _) ?_))
            refine bodyPost_ret (v := .agg (R.arr ({ R.zero with kind := 1, undo := un, no := no, img := im }))) ?_ rfl ?_
            rotate_left
            · exact HRS.out _ (r3.other (by omega) _) (grown_setRow gr3 hgl (Nat.le_refl _) _)
            · exact ret_cell (fn := Try.f46) rfl _ _ w.heap.size 33 (R.arr ({ R.zero with kind := 1, undo := un, no := no, img := im })) _ rfl (x1_3.set _) Try.underlying33 rfl (by rw [hsz9]; exact size33)
    by_cases hk2 : k = 2
    · subst hk2
      have k0 := row_at x2_0 0 _ (R.at0 _)
      go_upto_region 9 with fail
      clear k0
      have HC0 : Hid _ := fun w r => number_any g s p0 2 w r hs (by omega) (by decide)
      unfold eN at HC0
      cases hq0 : pN s 2 p0 with
      | none =>
        rw [hq0] at HC0
        have HRN : Hid (∀ w', w.grownBy w' (some g) → PP (.panicked gup) w') := fun w' gr => by
          rw [HP.out]; simp only [show pRec s a = none from by unfold pRec; simp [hqk, hq0]]; exact ⟨rfl, gr⟩
        go_wp2_with (go_at_call 66; refine (HC0.out _ r0).mono ?_; clear HC0; rintro e wn ⟨rfl, gn⟩)
        exact ⟨rfl, HRN.out _ (grown_trans gr0 gn)⟩
      | some x =>
        obtain ⟨no, p1⟩ := x
        rw [hq0] at HC0
        have fv_no := pN_fits hq0
        rw [show (2 : Int) ^ (8 * 2) = 65536 by decide] at fv_no
        have hb_p1 := (pN_some hq0).2.1
        have w_no : no % 65536 = no := by omega
        go_upto_region 10 with (first
          | (go_at_call 66; refine (HC0.out _ r0).mono ?_; clear HC0; rintro e wn ⟨rfl, rn, gn⟩; have x2n := Row.grown x2_0 gn (fun q => by cases q; omega); have e2 := row_at x2n 2 _ (R.at2 _); have f2 := row_frozen x2n 2))
        have x2_1 := (row_set x2n 2 (.int .u16 no))
        rw [R.set2] at x2_1
        simp only at x2_1
        have x1_1 := (row_setCell_other (Row.grown x1_0 gn (fun q => by cases q; omega)) (g := g3) (by omega) 2 (.int .u16 no))
        have r1 : Rd (wn.setCell ⟨g3, 2, none⟩ (.int .u16 no)) g s p1 := (row_setCell_other rn (g := g3) (by omega) 2 (.int .u16 no))
        have gr1 := (grown_setCellN (grown_trans gr0 gn) (k := g3) (by omega) 2 (.int .u16 no))
        clear x1_0 x2_0 r0 gr0 rn gn x2n e2 f2
        generalize (wn.setCell ⟨g3, 2, none⟩ (.int .u16 no)) = W1 at x1_1 x2_1 r1 gr1 ⊢
        have HC1 : Hid _ := fun w r => number_any g s p1 4 w r hs (by omega) (by decide)
        unfold eN at HC1
        cases hq1 : pN s 4 p1 with
        | none =>
          rw [hq1] at HC1
          have HRN : Hid (∀ w', w.grownBy w' (some g) → PP (.panicked gup) w') := fun w' gr => by
            rw [HP.out]; simp only [show pRec s a = none from by unfold pRec; simp [hqk, hq0, hq1]]; exact ⟨rfl, gr⟩
          go_wp2_with (go_at_call 66; refine (HC1.out _ r1).mono ?_; clear HC1; rintro e wn ⟨rfl, gn⟩)
          exact ⟨rfl, HRN.out _ (grown_trans gr1 gn)⟩
        | some x =>
          obtain ⟨ts, p2⟩ := x
          rw [hq1] at HC1
          have fv_ts := pN_fits hq1
          rw [show (2 : Int) ^ (8 * 4) = 4294967296 by decide] at fv_ts
          have hb_p2 := (pN_some hq1).2.1
          have w_ts : ts % 4294967296 = ts := by omega
          go_upto_region 11 with (first
            | (go_at_call 66; refine (HC1.out _ r1).mono ?_; clear HC1; rintro e wn ⟨rfl, rn, gn⟩; have x2n := Row.grown x2_1 gn (fun q => by cases q; omega); have e227 := row_at x2n 227 _ (R.atT _ (zs_length _) 0); have f227 := row_frozen x2n 227))
          have x2_2 := (row_set x2n 227 (.int .u32 ts))
          rw [R.set227 _ (zs_length _)] at x2_2
          simp only at x2_2
          have x1_2 := (row_setCell_other (Row.grown x1_1 gn (fun q => by cases q; omega)) (g := g3) (by omega) 227 (.int .u32 ts))
          have r2 : Rd (wn.setCell ⟨g3, 227, none⟩ (.int .u32 ts)) g s p2 := (row_setCell_other rn (g := g3) (by omega) 227 (.int .u32 ts))
          have gr2 := (grown_setCellN (grown_trans gr1 gn) (k := g3) (by omega) 227 (.int .u32 ts))
          clear x1_1 x2_1 r1 gr1 rn gn x2n e227 f227
          generalize (wn.setCell ⟨g3, 227, none⟩ (.int .u32 ts)) = W2 at x1_2 x2_2 r2 gr2 ⊢
          have HC2 : Hid _ := fun w r => ref_read g s p2 w r hs (by omega)
          unfold eR at HC2
          cases hq2 : pRef s p2 with
          | none =>
            rw [hq2] at HC2
            have HRN : Hid (∀ w', w.grownBy w' (some g) → PP (.panicked gup) w') := fun w' gr => by
              rw [HP.out]; simp only [show pRec s a = none from by unfold pRec; simp [hqk, hq0, hq1, hq2]]; exact ⟨rfl, gr⟩
            go_wp2_with (go_at_call 69; refine (HC2.out _ r2).mono ?_; clear HC2; rintro e wn ⟨rfl, gn⟩)
            exact ⟨rfl, HRN.out _ (grown_trans gr2 gn)⟩
          | some x =>
            obtain ⟨⟨np, ns⟩, p3⟩ := x
            rw [hq2] at HC2
            have hb_p3 := pRef_at hq2
            go_upto_region 12 with (first
              | (go_at_call 69; refine (HC2.out _ r2).mono ?_; clear HC2; rintro e wn ⟨rfl, rn, gn⟩; have x2n := Row.grown x2_2 gn (fun q => by cases q; omega); have e228 := row_at x2n 228 _ (R.atT _ (zs_length _) 1); have f228 := row_frozen x2n 228; have e229 := row_at x2n 229 _ (R.atT _ (zs_length _) 2); have f229 := row_frozen x2n 229))
            have x2_3 := (row_set (row_set x2n 228 (.int .u16 np)) 229 (.int .u8 ns))
            rw [R.set228 _ (zs_length _)] at x2_3
            simp only at x2_3
            have x1_3 := (row_setCell_other (row_setCell_other (Row.grown x1_2 gn (fun q => by cases q; omega)) (g := g3) (by omega) 228 (.int .u16 np)) (g := g3) (by omega) 229 (.int .u8 ns))
            have r3 : Rd ((wn.setCell ⟨g3, 228, none⟩ (.int .u16 np)).setCell ⟨g3, 229, none⟩ (.int .u8 ns)) g s p3 := (row_setCell_other (row_setCell_other rn (g := g3) (by omega) 228 (.int .u16 np)) (g := g3) (by omega) 229 (.int .u8 ns))
            have gr3 := (grown_setCellN (grown_setCellN (grown_trans gr2 gn) (k := g3) (by omega) 228 (.int .u16 np)) (k := g3) (by omega) 229 (.int .u8 ns))
            clear x1_2 x2_2 r2 gr2 rn gn x2n e228 f228 e229 f229
            generalize ((wn.setCell ⟨g3, 228, none⟩ (.int .u16 np)).setCell ⟨g3, 229, none⟩ (.int .u8 ns)) = W3 at x1_3 x2_3 r3 gr3 ⊢
            have HC3 : Hid _ := fun w r => sized_read g s 66 p3 w r hs (by omega) (by decide)
            unfold eS at HC3
            cases hq3 : pSized s 66 p3 with
            | none =>
              rw [hq3] at HC3
              have HRN : Hid (∀ w', w.grownBy w' (some g) → PP (.panicked gup) w') := fun w' gr => by
                rw [HP.out]; simp only [show pRec s a = none from by unfold pRec; simp [hqk, hq0, hq1, hq2, hq3]]; exact ⟨rfl, gr⟩
              go_wp2_with (go_at_call 70; refine (HC3.out _ r3).mono ?_; clear HC3; rintro e wn ⟨rfl, gn⟩)
              exact ⟨rfl, HRN.out _ (grown_trans gr3 gn)⟩
            | some x =>
              obtain ⟨xd, p4⟩ := x
              rw [hq3] at HC3
              have hb_p4 := (pSized_at hq3).1
              go_upto_region 20 with (first
                | (go_at_call 70; refine (HC3.out _ r3).mono ?_; clear HC3; rintro e wn ⟨rfl, rn, gn⟩; have x2n := Row.grown x2_3 gn (fun q => by cases q; omega); have e230 := row_at x2n 230 _ (R.atT _ (zs_length _) 3); have f230 := row_frozen x2n 230))
              have x2_4 := (row_set x2n 230 (.string xd))
              rw [R.set230 _ (zs_length _)] at x2_4
              simp only at x2_4
              have x1_4 := (row_setCell_other (Row.grown x1_3 gn (fun q => by cases q; omega)) (g := g3) (by omega) 230 (.string xd))
              have r4 : Rd (wn.setCell ⟨g3, 230, none⟩ (.string xd)) g s p4 := (row_setCell_other rn (g := g3) (by omega) 230 (.string xd))
              have gr4 := (grown_setCellN (grown_trans gr3 gn) (k := g3) (by omega) 230 (.string xd))
              clear x1_3 x2_3 r3 gr3 rn gn x2n e230 f230
              generalize (wn.setCell ⟨g3, 230, none⟩ (.string xd)) = W4 at x1_4 x2_4 r4 gr4 ⊢
              have HRS : Hid (∀ w', Rd w' g s p4 → w.grownBy w' (some g) → PP (.returned (.agg (R.arr ({ R.zero with kind := 2, no := no, ts := ts, pp := np, ps := ns, delta := xd })))) w') := fun w' r gr => by
                rw [HP.out]; simp only [show pRec s a = some (({ R.zero with kind := 2, no := no, ts := ts, pp := np, ps := ns, delta := xd }), p4) from by unfold pRec; simp [hqk, hq0, hq1, hq2, hq3]]; exact ⟨rfl, r, gr⟩
              have k0 := row_at x2_4 0 _ (R.at0 _)
              go_upto_region 22 with fail
              clear k0
              have hsz9 : (R.arr ({ R.zero with kind := 2, no := no, ts := ts, pp := np, ps := ns, delta := xd })).size = 238 := R.arr_size ({ R.zero with kind := 2, no := no, ts := ts, pp := np, ps := ns, delta := xd }) (zs_length _)
              go_wp2_with (first
                | (refine load_cells rfl 33 (.tmp 3) rfl g3 rfl 33 (R.arr ({ R.zero with kind := 2, no := no, ts := ts, pp := np, ps := ns, delta := xd })) x2_4 238 Try.underlying33 rfl size33 hsz9 ?_)
                | (refine store_cells rfl 33 (.tmp 2) (.tmp 68) rfl w.heap.size (R.arr ({ R.zero with kind := 2, no := no, ts := ts, pp := np, ps := ns, delta := xd })) rfl rfl 33 _ x1_4 238 size33 (R.arr_size _ (zs_length _)) hsz9 (R.arr_one _) ?_))
              refine bodyPost_ret (v := .agg (R.arr ({ R.zero with kind := 2, no := no, ts := ts, pp := np, ps := ns, delta := xd }))) ?_ rfl ?_
              rotate_left
              · exact HRS.out _ (r4.other (by omega) _) (grown_setRow gr4 hgl (Nat.le_refl _) _)
              · exact ret_cell (fn := Try.f46) rfl _ _ w.heap.size 33 (R.arr ({ R.zero with kind := 2, no := no, ts := ts, pp := np, ps := ns, delta := xd })) _ rfl (x1_4.set _) Try.underlying33 rfl (by rw [hsz9]; exact size33)
    by_cases hk3 : k = 3
    · subst hk3
      have k0 := row_at x2_0 0 _ (R.at0 _)
      go_upto_region 16 with fail
      clear k0
      have HC0 : Hid _ := fun w r => number_any g s p0 2 w r hs (by omega) (by decide)
      unfold eN at HC0
      cases hq0 : pN s 2 p0 with
      | none =>
        rw [hq0] at HC0
        have HRN : Hid (∀ w', w.grownBy w' (some g) → PP (.panicked gup) w') := fun w' gr => by
          rw [HP.out]; simp only [show pRec s a = none from by unfold pRec; simp [hqk, hq0]]; exact ⟨rfl, gr⟩
        go_wp2_with (go_at_call 66; refine (HC0.out _ r0).mono ?_; clear HC0; rintro e wn ⟨rfl, gn⟩)
        exact ⟨rfl, HRN.out _ (grown_trans gr0 gn)⟩
      | some x =>
        obtain ⟨no, p1⟩ := x
        rw [hq0] at HC0
        have fv_no := pN_fits hq0
        rw [show (2 : Int) ^ (8 * 2) = 65536 by decide] at fv_no
        have hb_p1 := (pN_some hq0).2.1
        have w_no : no % 65536 = no := by omega
        have hb24 : (Try.prog.built 24 [(0, .bool true), (1, .int .u16 no)]) = some #[.bool true, .int .u16 no] := by kernel_rfl
        go_upto_region 17 with (first
          | (go_at_call 66; refine (HC0.out _ r0).mono ?_; clear HC0; rintro e wn ⟨rfl, rn, gn⟩; have x2n := Row.grown x2_0 gn (fun q => by cases q; omega); have e1 := row_at x2n 1 _ (R.at1 _); have f1 := row_frozen x2n 1; have e2 := row_at x2n 2 _ (R.at2 _); have f2 := row_frozen x2n 2)
          | (refine build_parts rfl 24 #[(0, .const (.bool true)), (1, .tmp 49)] rfl [(0, .bool true), (1, .int .u16 no)] rfl _ hb24 ?_))
        have x2_1 := (row_set (row_set x2n 1 (.bool true)) 2 (.int .u16 no))
        rw [R.set12] at x2_1
        simp only at x2_1
        have x1_1 := (row_setCell_other (row_setCell_other (Row.grown x1_0 gn (fun q => by cases q; omega)) (g := g3) (by omega) 1 (.bool true)) (g := g3) (by omega) 2 (.int .u16 no))
        have r1 : Rd ((wn.setCell ⟨g3, 1, none⟩ (.bool true)).setCell ⟨g3, 2, none⟩ (.int .u16 no)) g s p1 := (row_setCell_other (row_setCell_other rn (g := g3) (by omega) 1 (.bool true)) (g := g3) (by omega) 2 (.int .u16 no))
        have gr1 := (grown_setCellN (grown_setCellN (grown_trans gr0 gn) (k := g3) (by omega) 1 (.bool true)) (k := g3) (by omega) 2 (.int .u16 no))
        clear x1_0 x2_0 r0 gr0 rn gn x2n e1 f1 e2 f2
        generalize ((wn.setCell ⟨g3, 1, none⟩ (.bool true)).setCell ⟨g3, 2, none⟩ (.int .u16 no)) = W1 at x1_1 x2_1 r1 gr1 ⊢
        have HC1 : Hid _ := fun w r => number_any g s p1 1 w r hs (by omega) (by decide)
        unfold eN at HC1
        cases hq1 : pN s 1 p1 with
        | none =>
          rw [hq1] at HC1
          have HRN : Hid (∀ w', w.grownBy w' (some g) → PP (.panicked gup) w') := fun w' gr => by
            rw [HP.out]; simp only [show pRec s a = none from by unfold pRec; simp [hqk, hq0, hq1]]; exact ⟨rfl, gr⟩
          go_wp2_with (go_at_call 66; refine (HC1.out _ r1).mono ?_; clear HC1; rintro e wn ⟨rfl, gn⟩)
          exact ⟨rfl, HRN.out _ (grown_trans gr1 gn)⟩
        | some x =>
          obtain ⟨sn, p2⟩ := x
          rw [hq1] at HC1
          have fv_sn := pN_fits hq1
          rw [show (2 : Int) ^ (8 * 1) = 256 by decide] at fv_sn
          have hb_p2 := (pN_some hq1).2.1
          have w_sn : sn % 256 = sn := by omega
          go_upto_region 20 with (first
            | (go_at_call 66; refine (HC1.out _ r1).mono ?_; clear HC1; rintro e wn ⟨rfl, rn, gn⟩; have x2n := Row.grown x2_1 gn (fun q => by cases q; omega); have e231 := row_at x2n 231 _ (R.atT _ (zs_length _) 4); have f231 := row_frozen x2n 231))
          have x2_2 := (row_set x2n 231 (.int .u8 sn))
          rw [R.set231 _ (zs_length _)] at x2_2
          simp only at x2_2
          have x1_2 := (row_setCell_other (Row.grown x1_1 gn (fun q => by cases q; omega)) (g := g3) (by omega) 231 (.int .u8 sn))
          have r2 : Rd (wn.setCell ⟨g3, 231, none⟩ (.int .u8 sn)) g s p2 := (row_setCell_other rn (g := g3) (by omega) 231 (.int .u8 sn))
          have gr2 := (grown_setCellN (grown_trans gr1 gn) (k := g3) (by omega) 231 (.int .u8 sn))
          clear x1_1 x2_1 r1 gr1 rn gn x2n e231 f231
          generalize (wn.setCell ⟨g3, 231, none⟩ (.int .u8 sn)) = W2 at x1_2 x2_2 r2 gr2 ⊢
          have k0 := row_at x2_2 0 _ (R.at0 _)
          go_upto_region 21 with fail
          clear k0
          have HC2 : Hid _ := fun w r => old_read g s p2 w r hs (by omega)
          unfold eO O.arr at HC2
          cases hq2 : pOld s p2 with
          | none =>
            rw [hq2] at HC2
            have HRN : Hid (∀ w', w.grownBy w' (some g) → PP (.panicked gup) w') := fun w' gr => by
              rw [HP.out]; simp only [show pRec s a = none from by unfold pRec; simp [hqk, hq0, hq1, hq2]]; exact ⟨rfl, gr⟩
            go_wp2_with (go_at_call 71; refine (HC2.out _ r2).mono ?_; clear HC2; rintro e wn ⟨rfl, gn⟩)
            exact ⟨rfl, HRN.out _ (grown_trans gr2 gn)⟩
          | some x =>
            obtain ⟨⟨ol, og, ot, onp, ons, od⟩, p3⟩ := x
            rw [hq2] at HC2
            go_upto_region 22 with (first
              | (go_at_call 71; refine (HC2.out _ r2).mono ?_; clear HC2; rintro e wn ⟨rfl, rn, gn⟩; have x2n := Row.grown x2_2 gn (fun q => by cases q; omega); have e232 := row_at x2n 232 _ (R.atT _ (zs_length _) 5); have f232 := row_frozen x2n 232; have e233 := row_at x2n 233 _ (R.atT _ (zs_length _) 6); have f233 := row_frozen x2n 233; have e234 := row_at x2n 234 _ (R.atT _ (zs_length _) 7); have f234 := row_frozen x2n 234; have e235 := row_at x2n 235 _ (R.atT _ (zs_length _) 8); have f235 := row_frozen x2n 235; have e236 := row_at x2n 236 _ (R.atT _ (zs_length _) 9); have f236 := row_frozen x2n 236; have e237 := row_at x2n 237 _ (R.atT _ (zs_length _) 10); have f237 := row_frozen x2n 237))
            have x2_3 := (row_set (row_set (row_set (row_set (row_set (row_set x2n 232 (.bool ol)) 233 (.int .u16 og)) 234 (.int .u32 ot)) 235 (.int .u16 onp)) 236 (.int .u8 ons)) 237 (.string od))
            rw [R.set232s _ (zs_length _)] at x2_3
            simp only at x2_3
            have x1_3 := (row_setCell_other (row_setCell_other (row_setCell_other (row_setCell_other (row_setCell_other (row_setCell_other (Row.grown x1_2 gn (fun q => by cases q; omega)) (g := g3) (by omega) 232 (.bool ol)) (g := g3) (by omega) 233 (.int .u16 og)) (g := g3) (by omega) 234 (.int .u32 ot)) (g := g3) (by omega) 235 (.int .u16 onp)) (g := g3) (by omega) 236 (.int .u8 ons)) (g := g3) (by omega) 237 (.string od))
            have r3 : Rd ((((((wn.setCell ⟨g3, 232, none⟩ (.bool ol)).setCell ⟨g3, 233, none⟩ (.int .u16 og)).setCell ⟨g3, 234, none⟩ (.int .u32 ot)).setCell ⟨g3, 235, none⟩ (.int .u16 onp)).setCell ⟨g3, 236, none⟩ (.int .u8 ons)).setCell ⟨g3, 237, none⟩ (.string od)) g s p3 := (row_setCell_other (row_setCell_other (row_setCell_other (row_setCell_other (row_setCell_other (row_setCell_other rn (g := g3) (by omega) 232 (.bool ol)) (g := g3) (by omega) 233 (.int .u16 og)) (g := g3) (by omega) 234 (.int .u32 ot)) (g := g3) (by omega) 235 (.int .u16 onp)) (g := g3) (by omega) 236 (.int .u8 ons)) (g := g3) (by omega) 237 (.string od))
            have gr3 := (grown_setCellN (grown_setCellN (grown_setCellN (grown_setCellN (grown_setCellN (grown_setCellN (grown_trans gr2 gn) (k := g3) (by omega) 232 (.bool ol)) (k := g3) (by omega) 233 (.int .u16 og)) (k := g3) (by omega) 234 (.int .u32 ot)) (k := g3) (by omega) 235 (.int .u16 onp)) (k := g3) (by omega) 236 (.int .u8 ons)) (k := g3) (by omega) 237 (.string od))
            clear x1_2 x2_2 r2 gr2 rn gn x2n e232 f232 e233 f233 e234 f234 e235 f235 e236 f236 e237 f237
            generalize ((((((wn.setCell ⟨g3, 232, none⟩ (.bool ol)).setCell ⟨g3, 233, none⟩ (.int .u16 og)).setCell ⟨g3, 234, none⟩ (.int .u32 ot)).setCell ⟨g3, 235, none⟩ (.int .u16 onp)).setCell ⟨g3, 236, none⟩ (.int .u8 ons)).setCell ⟨g3, 237, none⟩ (.string od)) = W3 at x1_3 x2_3 r3 gr3 ⊢
            have HRS : Hid (∀ w', Rd w' g s p3 → w.grownBy w' (some g) → PP (.returned (.agg (R.arr ({ R.zero with kind := 3, undo := true, no := no, slot := sn, old := ⟨ol, og, ot, onp, ons, od⟩ })))) w') := fun w' r gr => by
              rw [HP.out]; simp only [show pRec s a = some (({ R.zero with kind := 3, undo := true, no := no, slot := sn, old := ⟨ol, og, ot, onp, ons, od⟩ }), p3) from by unfold pRec; simp [hqk, hq0, hq1, hq2]]; exact ⟨rfl, r, gr⟩
            have hsz9 : (R.arr ({ R.zero with kind := 3, undo := true, no := no, slot := sn, old := ⟨ol, og, ot, onp, ons, od⟩ })).size = 238 := R.arr_size ({ R.zero with kind := 3, undo := true, no := no, slot := sn, old := ⟨ol, og, ot, onp, ons, od⟩ }) (zs_length _)
            go_wp2_with (first
              | (refine load_cells rfl 33 (.tmp 3) rfl g3 rfl 33 (R.arr ({ R.zero with kind := 3, undo := true, no := no, slot := sn, old := ⟨ol, og, ot, onp, ons, od⟩ })) x2_3 238 Try.underlying33 rfl size33 hsz9 ?_)
              | (refine store_cells rfl 33 (.tmp 2) (.tmp 68) rfl w.heap.size (R.arr ({ R.zero with kind := 3, undo := true, no := no, slot := sn, old := ⟨ol, og, ot, onp, ons, od⟩ })) rfl rfl 33 _ x1_3 238 size33 (R.arr_size _ (zs_length _)) hsz9 (R.arr_one _) ?_))
            refine bodyPost_ret (v := .agg (R.arr ({ R.zero with kind := 3, undo := true, no := no, slot := sn, old := ⟨ol, og, ot, onp, ons, od⟩ }))) ?_ rfl ?_
            rotate_left
            · exact HRS.out _ (r3.other (by omega) _) (grown_setRow gr3 hgl (Nat.le_refl _) _)
            · exact ret_cell (fn := Try.f46) rfl _ _ w.heap.size 33 (R.arr ({ R.zero with kind := 3, undo := true, no := no, slot := sn, old := ⟨ol, og, ot, onp, ons, od⟩ })) _ rfl (x1_3.set _) Try.underlying33 rfl (by rw [hsz9]; exact size33)
    by_cases hk4 : k = 4
    · subst hk4
      have k0 := row_at x2_0 0 _ (R.at0 _)
      go_upto_region 16 with fail
      clear k0
      have HC0 : Hid _ := fun w r => number_any g s p0 2 w r hs (by omega) (by decide)
      unfold eN at HC0
      cases hq0 : pN s 2 p0 with
      | none =>
        rw [hq0] at HC0
        have HRN : Hid (∀ w', w.grownBy w' (some g) → PP (.panicked gup) w') := fun w' gr => by
          rw [HP.out]; simp only [show pRec s a = none from by unfold pRec; simp [hqk, hq0]]; exact ⟨rfl, gr⟩
        go_wp2_with (go_at_call 66; refine (HC0.out _ r0).mono ?_; clear HC0; rintro e wn ⟨rfl, gn⟩)
        exact ⟨rfl, HRN.out _ (grown_trans gr0 gn)⟩
      | some x =>
        obtain ⟨no, p1⟩ := x
        rw [hq0] at HC0
        have fv_no := pN_fits hq0
        rw [show (2 : Int) ^ (8 * 2) = 65536 by decide] at fv_no
        have hb_p1 := (pN_some hq0).2.1
        have w_no : no % 65536 = no := by omega
        have hb24 : (Try.prog.built 24 [(0, .bool true), (1, .int .u16 no)]) = some #[.bool true, .int .u16 no] := by kernel_rfl
        go_upto_region 17 with (first
          | (go_at_call 66; refine (HC0.out _ r0).mono ?_; clear HC0; rintro e wn ⟨rfl, rn, gn⟩; have x2n := Row.grown x2_0 gn (fun q => by cases q; omega); have e1 := row_at x2n 1 _ (R.at1 _); have f1 := row_frozen x2n 1; have e2 := row_at x2n 2 _ (R.at2 _); have f2 := row_frozen x2n 2)
          | (refine build_parts rfl 24 #[(0, .const (.bool true)), (1, .tmp 49)] rfl [(0, .bool true), (1, .int .u16 no)] rfl _ hb24 ?_))
        have x2_1 := (row_set (row_set x2n 1 (.bool true)) 2 (.int .u16 no))
        rw [R.set12] at x2_1
        simp only at x2_1
        have x1_1 := (row_setCell_other (row_setCell_other (Row.grown x1_0 gn (fun q => by cases q; omega)) (g := g3) (by omega) 1 (.bool true)) (g := g3) (by omega) 2 (.int .u16 no))
        have r1 : Rd ((wn.setCell ⟨g3, 1, none⟩ (.bool true)).setCell ⟨g3, 2, none⟩ (.int .u16 no)) g s p1 := (row_setCell_other (row_setCell_other rn (g := g3) (by omega) 1 (.bool true)) (g := g3) (by omega) 2 (.int .u16 no))
        have gr1 := (grown_setCellN (grown_setCellN (grown_trans gr0 gn) (k := g3) (by omega) 1 (.bool true)) (k := g3) (by omega) 2 (.int .u16 no))
        clear x1_0 x2_0 r0 gr0 rn gn x2n e1 f1 e2 f2
        generalize ((wn.setCell ⟨g3, 1, none⟩ (.bool true)).setCell ⟨g3, 2, none⟩ (.int .u16 no)) = W1 at x1_1 x2_1 r1 gr1 ⊢
        have HC1 : Hid _ := fun w r => number_any g s p1 1 w r hs (by omega) (by decide)
        unfold eN at HC1
        cases hq1 : pN s 1 p1 with
        | none =>
          rw [hq1] at HC1
          have HRN : Hid (∀ w', w.grownBy w' (some g) → PP (.panicked gup) w') := fun w' gr => by
            rw [HP.out]; simp only [show pRec s a = none from by unfold pRec; simp [hqk, hq0, hq1]]; exact ⟨rfl, gr⟩
          go_wp2_with (go_at_call 66; refine (HC1.out _ r1).mono ?_; clear HC1; rintro e wn ⟨rfl, gn⟩)
          exact ⟨rfl, HRN.out _ (grown_trans gr1 gn)⟩
        | some x =>
          obtain ⟨sn, p2⟩ := x
          rw [hq1] at HC1
          have fv_sn := pN_fits hq1
          rw [show (2 : Int) ^ (8 * 1) = 256 by decide] at fv_sn
          have hb_p2 := (pN_some hq1).2.1
          have w_sn : sn % 256 = sn := by omega
          go_upto_region 20 with (first
            | (go_at_call 66; refine (HC1.out _ r1).mono ?_; clear HC1; rintro e wn ⟨rfl, rn, gn⟩; have x2n := Row.grown x2_1 gn (fun q => by cases q; omega); have e231 := row_at x2n 231 _ (R.atT _ (zs_length _) 4); have f231 := row_frozen x2n 231))
          have x2_2 := (row_set x2n 231 (.int .u8 sn))
          rw [R.set231 _ (zs_length _)] at x2_2
          simp only at x2_2
          have x1_2 := (row_setCell_other (Row.grown x1_1 gn (fun q => by cases q; omega)) (g := g3) (by omega) 231 (.int .u8 sn))
          have r2 : Rd (wn.setCell ⟨g3, 231, none⟩ (.int .u8 sn)) g s p2 := (row_setCell_other rn (g := g3) (by omega) 231 (.int .u8 sn))
          have gr2 := (grown_setCellN (grown_trans gr1 gn) (k := g3) (by omega) 231 (.int .u8 sn))
          clear x1_1 x2_1 r1 gr1 rn gn x2n e231 f231
          generalize (wn.setCell ⟨g3, 231, none⟩ (.int .u8 sn)) = W2 at x1_2 x2_2 r2 gr2 ⊢
          have HRS : Hid (∀ w', Rd w' g s p2 → w.grownBy w' (some g) → PP (.returned (.agg (R.arr ({ R.zero with kind := 4, undo := true, no := no, slot := sn })))) w') := fun w' r gr => by
            rw [HP.out]; simp only [show pRec s a = some (({ R.zero with kind := 4, undo := true, no := no, slot := sn }), p2) from by unfold pRec; simp [hqk, hq0, hq1]]; exact ⟨rfl, r, gr⟩
          have k0 := row_at x2_2 0 _ (R.at0 _)
          go_upto_region 22 with fail
          clear k0
          have hsz9 : (R.arr ({ R.zero with kind := 4, undo := true, no := no, slot := sn })).size = 238 := R.arr_size ({ R.zero with kind := 4, undo := true, no := no, slot := sn }) (zs_length _)
          go_wp2_with (first
            | (refine load_cells rfl 33 (.tmp 3) rfl g3 rfl 33 (R.arr ({ R.zero with kind := 4, undo := true, no := no, slot := sn })) x2_2 238 Try.underlying33 rfl size33 hsz9 ?_)
            | (refine store_cells rfl 33 (.tmp 2) (.tmp 68) rfl w.heap.size (R.arr ({ R.zero with kind := 4, undo := true, no := no, slot := sn })) rfl rfl 33 _ x1_2 238 size33 (R.arr_size _ (zs_length _)) hsz9 (R.arr_one _) ?_))
          refine bodyPost_ret (v := .agg (R.arr ({ R.zero with kind := 4, undo := true, no := no, slot := sn }))) ?_ rfl ?_
          rotate_left
          · exact HRS.out _ (r2.other (by omega) _) (grown_setRow gr2 hgl (Nat.le_refl _) _)
          · exact ret_cell (fn := Try.f46) rfl _ _ w.heap.size 33 (R.arr ({ R.zero with kind := 4, undo := true, no := no, slot := sn })) _ rfl (x1_2.set _) Try.underlying33 rfl (by rw [hsz9]; exact size33)
    by_cases hk5 : k = 5
    · subst hk5
      have k0 := row_at x2_0 0 _ (R.at0 _)
      go_upto_region 16 with fail
      clear k0
      have HC0 : Hid _ := fun w r => number_any g s p0 2 w r hs (by omega) (by decide)
      unfold eN at HC0
      cases hq0 : pN s 2 p0 with
      | none =>
        rw [hq0] at HC0
        have HRN : Hid (∀ w', w.grownBy w' (some g) → PP (.panicked gup) w') := fun w' gr => by
          rw [HP.out]; simp only [show pRec s a = none from by unfold pRec; simp [hqk, hq0]]; exact ⟨rfl, gr⟩
        go_wp2_with (go_at_call 66; refine (HC0.out _ r0).mono ?_; clear HC0; rintro e wn ⟨rfl, gn⟩)
        exact ⟨rfl, HRN.out _ (grown_trans gr0 gn)⟩
      | some x =>
        obtain ⟨no, p1⟩ := x
        rw [hq0] at HC0
        have fv_no := pN_fits hq0
        rw [show (2 : Int) ^ (8 * 2) = 65536 by decide] at fv_no
        have hb_p1 := (pN_some hq0).2.1
        have w_no : no % 65536 = no := by omega
        have hb24 : (Try.prog.built 24 [(0, .bool true), (1, .int .u16 no)]) = some #[.bool true, .int .u16 no] := by kernel_rfl
        go_upto_region 17 with (first
          | (go_at_call 66; refine (HC0.out _ r0).mono ?_; clear HC0; rintro e wn ⟨rfl, rn, gn⟩; have x2n := Row.grown x2_0 gn (fun q => by cases q; omega); have e1 := row_at x2n 1 _ (R.at1 _); have f1 := row_frozen x2n 1; have e2 := row_at x2n 2 _ (R.at2 _); have f2 := row_frozen x2n 2)
          | (refine build_parts rfl 24 #[(0, .const (.bool true)), (1, .tmp 49)] rfl [(0, .bool true), (1, .int .u16 no)] rfl _ hb24 ?_))
        have x2_1 := (row_set (row_set x2n 1 (.bool true)) 2 (.int .u16 no))
        rw [R.set12] at x2_1
        simp only at x2_1
        have x1_1 := (row_setCell_other (row_setCell_other (Row.grown x1_0 gn (fun q => by cases q; omega)) (g := g3) (by omega) 1 (.bool true)) (g := g3) (by omega) 2 (.int .u16 no))
        have r1 : Rd ((wn.setCell ⟨g3, 1, none⟩ (.bool true)).setCell ⟨g3, 2, none⟩ (.int .u16 no)) g s p1 := (row_setCell_other (row_setCell_other rn (g := g3) (by omega) 1 (.bool true)) (g := g3) (by omega) 2 (.int .u16 no))
        have gr1 := (grown_setCellN (grown_setCellN (grown_trans gr0 gn) (k := g3) (by omega) 1 (.bool true)) (k := g3) (by omega) 2 (.int .u16 no))
        clear x1_0 x2_0 r0 gr0 rn gn x2n e1 f1 e2 f2
        generalize ((wn.setCell ⟨g3, 1, none⟩ (.bool true)).setCell ⟨g3, 2, none⟩ (.int .u16 no)) = W1 at x1_1 x2_1 r1 gr1 ⊢
        have HC1 : Hid _ := fun w r => number_any g s p1 1 w r hs (by omega) (by decide)
        unfold eN at HC1
        cases hq1 : pN s 1 p1 with
        | none =>
          rw [hq1] at HC1
          have HRN : Hid (∀ w', w.grownBy w' (some g) → PP (.panicked gup) w') := fun w' gr => by
            rw [HP.out]; simp only [show pRec s a = none from by unfold pRec; simp [hqk, hq0, hq1]]; exact ⟨rfl, gr⟩
          go_wp2_with (go_at_call 66; refine (HC1.out _ r1).mono ?_; clear HC1; rintro e wn ⟨rfl, gn⟩)
          exact ⟨rfl, HRN.out _ (grown_trans gr1 gn)⟩
        | some x =>
          obtain ⟨sn, p2⟩ := x
          rw [hq1] at HC1
          have fv_sn := pN_fits hq1
          rw [show (2 : Int) ^ (8 * 1) = 256 by decide] at fv_sn
          have hb_p2 := (pN_some hq1).2.1
          have w_sn : sn % 256 = sn := by omega
          go_upto_region 20 with (first
            | (go_at_call 66; refine (HC1.out _ r1).mono ?_; clear HC1; rintro e wn ⟨rfl, rn, gn⟩; have x2n := Row.grown x2_1 gn (fun q => by cases q; omega); have e231 := row_at x2n 231 _ (R.atT _ (zs_length _) 4); have f231 := row_frozen x2n 231))
          have x2_2 := (row_set x2n 231 (.int .u8 sn))
          rw [R.set231 _ (zs_length _)] at x2_2
          simp only at x2_2
          have x1_2 := (row_setCell_other (Row.grown x1_1 gn (fun q => by cases q; omega)) (g := g3) (by omega) 231 (.int .u8 sn))
          have r2 : Rd (wn.setCell ⟨g3, 231, none⟩ (.int .u8 sn)) g s p2 := (row_setCell_other rn (g := g3) (by omega) 231 (.int .u8 sn))
          have gr2 := (grown_setCellN (grown_trans gr1 gn) (k := g3) (by omega) 231 (.int .u8 sn))
          clear x1_1 x2_1 r1 gr1 rn gn x2n e231 f231
          generalize (wn.setCell ⟨g3, 231, none⟩ (.int .u8 sn)) = W2 at x1_2 x2_2 r2 gr2 ⊢
          have HRS : Hid (∀ w', Rd w' g s p2 → w.grownBy w' (some g) → PP (.returned (.agg (R.arr ({ R.zero with kind := 5, undo := true, no := no, slot := sn })))) w') := fun w' r gr => by
            rw [HP.out]; simp only [show pRec s a = some (({ R.zero with kind := 5, undo := true, no := no, slot := sn }), p2) from by unfold pRec; simp [hqk, hq0, hq1]]; exact ⟨rfl, r, gr⟩
          have k0 := row_at x2_2 0 _ (R.at0 _)
          go_upto_region 22 with fail
          clear k0
          have hsz9 : (R.arr ({ R.zero with kind := 5, undo := true, no := no, slot := sn })).size = 238 := R.arr_size ({ R.zero with kind := 5, undo := true, no := no, slot := sn }) (zs_length _)
          go_wp2_with (first
            | (refine load_cells rfl 33 (.tmp 3) rfl g3 rfl 33 (R.arr ({ R.zero with kind := 5, undo := true, no := no, slot := sn })) x2_2 238 Try.underlying33 rfl size33 hsz9 ?_)
            | (refine store_cells rfl 33 (.tmp 2) (.tmp 68) rfl w.heap.size (R.arr ({ R.zero with kind := 5, undo := true, no := no, slot := sn })) rfl rfl 33 _ x1_2 238 size33 (R.arr_size _ (zs_length _)) hsz9 (R.arr_one _) ?_))
          refine bodyPost_ret (v := .agg (R.arr ({ R.zero with kind := 5, undo := true, no := no, slot := sn }))) ?_ rfl ?_
          rotate_left
          · exact HRS.out _ (r2.other (by omega) _) (grown_setRow gr2 hgl (Nat.le_refl _) _)
          · exact ret_cell (fn := Try.f46) rfl _ _ w.heap.size 33 (R.arr ({ R.zero with kind := 5, undo := true, no := no, slot := sn })) _ rfl (x1_2.set _) Try.underlying33 rfl (by rw [hsz9]; exact size33)
    by_cases hk6 : k = 6
    · subst hk6
      have k0 := row_at x2_0 0 _ (R.at0 _)
      go_upto_region 19 with fail
      clear k0
      have HC0 : Hid _ := fun w r => number_any g s p0 4 w r hs (by omega) (by decide)
      unfold eN at HC0
      cases hq0 : pN s 4 p0 with
      | none =>
        rw [hq0] at HC0
        have HRN : Hid (∀ w', w.grownBy w' (some g) → PP (.panicked gup) w') := fun w' gr => by
          rw [HP.out]; simp only [show pRec s a = none from by unfold pRec; simp [hqk, hq0]]; exact ⟨rfl, gr⟩
        go_wp2_with (go_at_call 66; refine (HC0.out _ r0).mono ?_; clear HC0; rintro e wn ⟨rfl, gn⟩)
        exact ⟨rfl, HRN.out _ (grown_trans gr0 gn)⟩
      | some x =>
        obtain ⟨ts, p1⟩ := x
        rw [hq0] at HC0
        have fv_ts := pN_fits hq0
        rw [show (2 : Int) ^ (8 * 4) = 4294967296 by decide] at fv_ts
        have hb_p1 := (pN_some hq0).2.1
        have w_ts : ts % 4294967296 = ts := by omega
        go_upto_region 20 with (first
          | (go_at_call 66; refine (HC0.out _ r0).mono ?_; clear HC0; rintro e wn ⟨rfl, rn, gn⟩; have x2n := Row.grown x2_0 gn (fun q => by cases q; omega); have e227 := row_at x2n 227 _ (R.atT _ (zs_length _) 0); have f227 := row_frozen x2n 227))
        have x2_1 := (row_set x2n 227 (.int .u32 ts))
        rw [R.set227 _ (zs_length _)] at x2_1
        simp only at x2_1
        have x1_1 := (row_setCell_other (Row.grown x1_0 gn (fun q => by cases q; omega)) (g := g3) (by omega) 227 (.int .u32 ts))
        have r1 : Rd (wn.setCell ⟨g3, 227, none⟩ (.int .u32 ts)) g s p1 := (row_setCell_other rn (g := g3) (by omega) 227 (.int .u32 ts))
        have gr1 := (grown_setCellN (grown_trans gr0 gn) (k := g3) (by omega) 227 (.int .u32 ts))
        clear x1_0 x2_0 r0 gr0 rn gn x2n e227 f227
        generalize (wn.setCell ⟨g3, 227, none⟩ (.int .u32 ts)) = W1 at x1_1 x2_1 r1 gr1 ⊢
        have HRS : Hid (∀ w', Rd w' g s p1 → w.grownBy w' (some g) → PP (.returned (.agg (R.arr ({ R.zero with kind := 6, ts := ts })))) w') := fun w' r gr => by
          rw [HP.out]; simp only [show pRec s a = some (({ R.zero with kind := 6, ts := ts }), p1) from by unfold pRec; simp [hqk, hq0]]; exact ⟨rfl, r, gr⟩
        have k0 := row_at x2_1 0 _ (R.at0 _)
        go_upto_region 22 with fail
        clear k0
        have hsz9 : (R.arr ({ R.zero with kind := 6, ts := ts })).size = 238 := R.arr_size ({ R.zero with kind := 6, ts := ts }) (zs_length _)
        go_wp2_with (first
          | (refine load_cells rfl 33 (.tmp 3) rfl g3 rfl 33 (R.arr ({ R.zero with kind := 6, ts := ts })) x2_1 238 Try.underlying33 rfl size33 hsz9 ?_)
          | (refine store_cells rfl 33 (.tmp 2) (.tmp 68) rfl w.heap.size (R.arr ({ R.zero with kind := 6, ts := ts })) rfl rfl 33 _ x1_1 238 size33 (R.arr_size _ (zs_length _)) hsz9 (R.arr_one _) ?_))
        refine bodyPost_ret (v := .agg (R.arr ({ R.zero with kind := 6, ts := ts }))) ?_ rfl ?_
        rotate_left
        · exact HRS.out _ (r1.other (by omega) _) (grown_setRow gr1 hgl (Nat.le_refl _) _)
        · exact ret_cell (fn := Try.f46) rfl _ _ w.heap.size 33 (R.arr ({ R.zero with kind := 6, ts := ts })) _ rfl (x1_1.set _) Try.underlying33 rfl (by rw [hsz9]; exact size33)
    have t1 : (k == 1) = false := by simp; omega
    have t2 : (k == 2) = false := by simp; omega
    have t3 : (k == 3) = false := by simp; omega
    have t4 : (k == 4) = false := by simp; omega
    have t5 : (k == 5) = false := by simp; omega
    have t6 : (k == 6) = false := by simp; omega
    have HRN : Hid (∀ w', w.grownBy w' (some g) → PP (.panicked gup) w') := fun w' gr => by
      rw [HP.out]; simp only [show pRec s a = none from by unfold pRec; simp [hqk, hk1, hk2, hk3, hk4, hk5, hk6]]; exact ⟨rfl, gr⟩
    have k0 := row_at x2_0 0 _ (R.at0 _)
    clear hk1 hk2 hk3 hk4 hk5 hk6
    go_wp2_with (go_at_call 47; refine (HMU.out _ _).mono ?_; clear HMU; rintro e wm ⟨he, hww⟩; rw [hww]; clear hww; obtain rfl := he)
    exact ⟨rfl, HRN.out _ gr0⟩
end Go.Proofs.Ytihjapfgllokgaa
