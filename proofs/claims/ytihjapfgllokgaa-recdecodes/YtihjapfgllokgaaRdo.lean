/-
  Proved here: a reader that takes an old version and an image (rec.reader.old, image).
-/
import Derived.Test.YtihjapfgllokgaaRdq
namespace Go.Proofs.Ytihjapfgllokgaa
open Go.ChangeShapes Go.WideShapes Go.ChangeAt Go.RowKit
set_option linter.unusedVariables false
set_option linter.unusedSimpArgs false

theorem pRef_at {s : ByteArray} {a : Nat} {v : Int × Int} {b : Nat} (h : pRef s a = some (v, b)) : b = a + 3 := by
  unfold pRef at h
  cases h1 : pN s 2 a with
  | none => simp [h1] at h
  | some x =>
    obtain ⟨p, c⟩ := x
    simp only [h1] at h
    cases h2 : pN s 1 c with
    | none => simp [h2] at h
    | some y =>
      obtain ⟨q, d⟩ := y
      simp [h2] at h
      have e1 := (pN_some h1).2.1
      have e2 := (pN_some h2).2.1
      omega
theorem pSized_at {s : ByteArray} {most a : Nat} {v : ByteArray} {b : Nat} (h : pSized s most a = some (v, b)) : b ≤ a + 1 + most ∧ v.size ≤ most := by
  unfold pSized at h
  cases h1 : pN s 1 a with
  | none => simp [h1] at h
  | some x =>
    obtain ⟨n, c⟩ := x
    simp only [h1] at h
    have e1 := pN_some h1
    have e2 := pN_fits h1
    split at h
    · rename_i q
      simp at h
      rw [← h.1, ByteArray.size_extract]
      omega
    · cases h
theorem grown_setCellN {w w' : World} {g : Nat} (h : w.grownBy w' (some g)) {k : Nat} (hk : w.heap.size ≤ k) (o : Nat) (v : Value) : w.grownBy (w'.setCell ⟨k, o, none⟩ v) (some g) :=
  ⟨h.os, h.tape, h.output, Nat.le_trans h.size (KeepsWalks.setCell w' _ v).size, fun i hi hr => by rw [Below.heap_setCell _ _ _ i (by show i ≠ k; omega)]; exact h.block i hi hr⟩
theorem grown_setCellsN {w w' : World} {g : Nat} (h : w.grownBy w' (some g)) {k : Nat} (hk : w.heap.size ≤ k) : ∀ (vs : List Value) (o : Nat), w.grownBy (w'.setCells k o vs) (some g)
  | [], _ => h
  | v :: vs, o => grown_setCellsN (grown_setCellN h hk o v) hk vs (o + 1)
theorem size31 : (Try.prog.info? 31).map (·.size) = some 6 := by kernel_rfl
def pOld (s : ByteArray) (a : Nat) : Option (O × Nat) :=
  (pN s 2 a).bind fun x => (pN s 4 x.2).bind fun y => (pRef s y.2).bind fun z => (pSized s 66 z.2).bind fun u => some (⟨true, x.1, y.1, z.1.1, z.1.2, u.1⟩, u.2)
def eO (o : O) : Value := .agg o.arr
set_option maxRecDepth 20000 in
set_option maxHeartbeats 4000000 in
theorem old_read (g : Nat) (s : ByteArray) (a : Nat) (w : World) (h : Rd w g s a) (hs : s.size ≤ maxLen) (ha : a ≤ 80000) :
    Calls Try.prog 71 #[.pointer (some ⟨g, 0, none⟩)] w fun e w' => Got w g s eO (pOld s a) e w' := by
  have hgl := h.lt
  have hz : ∀ w, (zeroValue 31).run Try.prog w = .ok (.agg #[.bool false, .int .u16 0, .int .u32 0, .int .u16 0, .int .u8 0, .string ByteArray.empty]) w := fun w => (zero_of_info (P := Try.prog) (t := 31) (v := .agg #[.bool false, .int .u16 0, .int .u32 0, .int .u16 0, .int .u8 0, .string ByteArray.empty]) (n := 6) (by kernel_rfl)).1 w
  have hb31 : (Try.prog.built 31 [(0, .bool true)]) = some #[.bool true, .int .u16 0, .int .u32 0, .int .u16 0, .int .u8 0, .string ByteArray.empty] := by kernel_rfl
  have ra : Rd (w.alloc (.cells #[.bool false, .int .u16 0, .int .u32 0, .int .u16 0, .int .u8 0, .string ByteArray.empty] 31)) g s a := Row.alloc h _
  have xa : Row (w.alloc (.cells #[.bool false, .int .u16 0, .int .u32 0, .int .u16 0, .int .u8 0, .string ByteArray.empty] 31)) w.heap.size #[.bool false, .int .u16 0, .int .u32 0, .int .u16 0, .int .u8 0, .string ByteArray.empty] 31 := Row.new _ _ _
  have ga : w.grownBy (w.alloc (.cells #[.bool false, .int .u16 0, .int .u32 0, .int .u16 0, .int .u8 0, .string ByteArray.empty] 31)) (some g) := World.grownBy_alloc w _ _
  have hsz : Hid ((w.alloc (.cells #[.bool false, .int .u16 0, .int .u32 0, .int .u16 0, .int .u8 0, .string ByteArray.empty] 31)).heap.size = w.heap.size + 1) := by simp [Hid]
  obtain ⟨PP, HP⟩ : ∃ P : Ending → World → Prop, Hid (P = fun e w' => Got w g s eO (pOld s a) e w') := ⟨_, rfl⟩
  rw [show (fun e w' => Got w g s eO (pOld s a) e w') = PP from HP.out.symm]
  go_enter Try.func71, Try.ntmps71
  go_upto_region 1 with fail
  generalize w.alloc (.cells #[.bool false, .int .u16 0, .int .u32 0, .int .u16 0, .int .u8 0, .string ByteArray.empty] 31) = w9 at ra xa ga hsz ⊢
  have rb : Rd (w9.alloc (.cells #[.bool false, .int .u16 0, .int .u32 0, .int .u16 0, .int .u8 0, .string ByteArray.empty] 31)) g s a := Row.alloc ra _
  have xb : Row (w9.alloc (.cells #[.bool false, .int .u16 0, .int .u32 0, .int .u16 0, .int .u8 0, .string ByteArray.empty] 31)) w.heap.size #[.bool false, .int .u16 0, .int .u32 0, .int .u16 0, .int .u8 0, .string ByteArray.empty] 31 := xa.alloc _
  have xc : Row (w9.alloc (.cells #[.bool false, .int .u16 0, .int .u32 0, .int .u16 0, .int .u8 0, .string ByteArray.empty] 31)) (w.heap.size + 1) #[.bool false, .int .u16 0, .int .u32 0, .int .u16 0, .int .u8 0, .string ByteArray.empty] 31 := by rw [← hsz.out]; exact Row.new _ _ _
  have gb := grown_trans ga (World.grownBy_alloc w9 (.cells #[.bool false, .int .u16 0, .int .u32 0, .int .u16 0, .int .u8 0, .string ByteArray.empty] 31) (some g))
  go_upto_region 2 with (first
    | (refine build_parts rfl 31 #[(0, .const (.bool true))] rfl [(0, .bool true)] rfl _ hb31 ?_)
    | (refine store_cells rfl 31 (.tmp 3) (.tmp 4) rfl (w.heap.size + 1) #[.bool true, .int .u16 0, .int .u32 0, .int .u16 0, .int .u8 0, .string ByteArray.empty] (by rw [← hsz.out]; rfl) rfl 31 _ xc 6 size31 rfl rfl (by simp [Value.oneCell']) ?_))
  have r0 : Rd _ g s a := rb.other (k := w.heap.size + 1) (by omega) #[.bool true, .int .u16 0, .int .u32 0, .int .u16 0, .int .u8 0, .string ByteArray.empty]
  have x1_0 := xb.other (g := w.heap.size + 1) (by omega) #[.bool true, .int .u16 0, .int .u32 0, .int .u16 0, .int .u8 0, .string ByteArray.empty]
  have x2_0 := xc.set #[.bool true, .int .u16 0, .int .u32 0, .int .u16 0, .int .u8 0, .string ByteArray.empty]
  have gr0 := grown_setRow gb hgl (k := w.heap.size + 1) (by omega) #[.bool true, .int .u16 0, .int .u32 0, .int .u16 0, .int .u8 0, .string ByteArray.empty]
  clear ra xa ga rb xb xc gb h
  try rw [hsz.out]
  clear hsz
  generalize (w9.alloc (.cells #[.bool false, .int .u16 0, .int .u32 0, .int .u16 0, .int .u8 0, .string ByteArray.empty] 31)).setRow (w.heap.size + 1) #[.bool true, .int .u16 0, .int .u32 0, .int .u16 0, .int .u8 0, .string ByteArray.empty] = W0 at r0 x1_0 x2_0 gr0 ⊢
  have HC0 : Hid _ := fun w r => number_any g s a 2 w r hs (by omega) (by decide)
  unfold eN at HC0
  cases hq0 : pN s 2 a with
  | none =>
    rw [hq0] at HC0
    have HRN : Hid (∀ w', w.grownBy w' (some g) → PP (.panicked gup) w') := fun w' gr => by
      rw [HP.out]; simp only [show pOld s a = none from by unfold pOld; simp only [hq0, Option.bind_none, Option.bind_some]]; exact ⟨rfl, gr⟩
    go_wp2_with (go_at_call 66; refine (HC0.out _ r0).mono ?_; clear HC0; rintro e wn ⟨rfl, gn⟩)
    exact ⟨rfl, HRN.out _ (grown_trans gr0 gn)⟩
  | some x =>
    obtain ⟨pg, p1⟩ := x
    rw [hq0] at HC0
    have fv_pg := pN_fits hq0
    rw [show (2 : Int) ^ (8 * 2) = 65536 by decide] at fv_pg
    have hb_p1 := (pN_some hq0).2.1
    have w_pg : pg % 65536 = pg := by omega
    go_upto_region 3 with (first
      | (go_at_call 66; refine (HC0.out _ r0).mono ?_; clear HC0; rintro e wn ⟨rfl, rn, gn⟩; have x2n := Row.grown x2_0 gn (fun q => by cases q; omega); have e1 := row_at x2n 1 _ rfl; have f1 := row_frozen x2n 1))
    have x2_1 := (row_set x2n 1 (.int .u16 pg))
    have x1_1 := (row_setCell_other (Row.grown x1_0 gn (fun q => by cases q; omega)) (g := (w.heap.size + 1)) (by omega) 1 (.int .u16 pg))
    have r1 : Rd (wn.setCell ⟨(w.heap.size + 1), 1, none⟩ (.int .u16 pg)) g s p1 := (row_setCell_other rn (g := (w.heap.size + 1)) (by omega) 1 (.int .u16 pg))
    have gr1 := (grown_setCellN (grown_trans gr0 gn) (k := (w.heap.size + 1)) (by omega) 1 (.int .u16 pg))
    clear x1_0 x2_0 r0 gr0 rn gn x2n e1 f1
    generalize (wn.setCell ⟨(w.heap.size + 1), 1, none⟩ (.int .u16 pg)) = W1 at x1_1 x2_1 r1 gr1 ⊢
    have HC1 : Hid _ := fun w r => number_any g s p1 4 w r hs (by omega) (by decide)
    unfold eN at HC1
    cases hq1 : pN s 4 p1 with
    | none =>
      rw [hq1] at HC1
      have HRN : Hid (∀ w', w.grownBy w' (some g) → PP (.panicked gup) w') := fun w' gr => by
        rw [HP.out]; simp only [show pOld s a = none from by unfold pOld; simp only [hq0, hq1, Option.bind_none, Option.bind_some]]; exact ⟨rfl, gr⟩
      go_wp2_with (go_at_call 66; refine (HC1.out _ r1).mono ?_; clear HC1; rintro e wn ⟨rfl, gn⟩)
      exact ⟨rfl, HRN.out _ (grown_trans gr1 gn)⟩
    | some x =>
      obtain ⟨ts, p2⟩ := x
      rw [hq1] at HC1
      have fv_ts := pN_fits hq1
      rw [show (2 : Int) ^ (8 * 4) = 4294967296 by decide] at fv_ts
      have hb_p2 := (pN_some hq1).2.1
      have w_ts : ts % 4294967296 = ts := by omega
      go_upto_region 4 with (first
        | (go_at_call 66; refine (HC1.out _ r1).mono ?_; clear HC1; rintro e wn ⟨rfl, rn, gn⟩; have x2n := Row.grown x2_1 gn (fun q => by cases q; omega); have e2 := row_at x2n 2 _ rfl; have f2 := row_frozen x2n 2))
      have x2_2 := (row_set x2n 2 (.int .u32 ts))
      have x1_2 := (row_setCell_other (Row.grown x1_1 gn (fun q => by cases q; omega)) (g := (w.heap.size + 1)) (by omega) 2 (.int .u32 ts))
      have r2 : Rd (wn.setCell ⟨(w.heap.size + 1), 2, none⟩ (.int .u32 ts)) g s p2 := (row_setCell_other rn (g := (w.heap.size + 1)) (by omega) 2 (.int .u32 ts))
      have gr2 := (grown_setCellN (grown_trans gr1 gn) (k := (w.heap.size + 1)) (by omega) 2 (.int .u32 ts))
      clear x1_1 x2_1 r1 gr1 rn gn x2n e2 f2
      generalize (wn.setCell ⟨(w.heap.size + 1), 2, none⟩ (.int .u32 ts)) = W2 at x1_2 x2_2 r2 gr2 ⊢
      have HC2 : Hid _ := fun w r => ref_read g s p2 w r hs (by omega)
      unfold eR at HC2
      cases hq2 : pRef s p2 with
      | none =>
        rw [hq2] at HC2
        have HRN : Hid (∀ w', w.grownBy w' (some g) → PP (.panicked gup) w') := fun w' gr => by
          rw [HP.out]; simp only [show pOld s a = none from by unfold pOld; simp only [hq0, hq1, hq2, Option.bind_none, Option.bind_some]]; exact ⟨rfl, gr⟩
        go_wp2_with (go_at_call 69; refine (HC2.out _ r2).mono ?_; clear HC2; rintro e wn ⟨rfl, gn⟩)
        exact ⟨rfl, HRN.out _ (grown_trans gr2 gn)⟩
      | some x =>
        obtain ⟨⟨np, ns⟩, p3⟩ := x
        rw [hq2] at HC2
        have hb_p3 := pRef_at hq2
        go_upto_region 5 with (first
          | (go_at_call 69; refine (HC2.out _ r2).mono ?_; clear HC2; rintro e wn ⟨rfl, rn, gn⟩; have x2n := Row.grown x2_2 gn (fun q => by cases q; omega); have e3 := row_at x2n 3 _ rfl; have f3 := row_frozen x2n 3; have e4 := row_at x2n 4 _ rfl; have f4 := row_frozen x2n 4))
        have x2_3 := (row_set (row_set x2n 3 (.int .u16 np)) 4 (.int .u8 ns))
        have x1_3 := (row_setCell_other (row_setCell_other (Row.grown x1_2 gn (fun q => by cases q; omega)) (g := (w.heap.size + 1)) (by omega) 3 (.int .u16 np)) (g := (w.heap.size + 1)) (by omega) 4 (.int .u8 ns))
        have r3 : Rd ((wn.setCell ⟨(w.heap.size + 1), 3, none⟩ (.int .u16 np)).setCell ⟨(w.heap.size + 1), 4, none⟩ (.int .u8 ns)) g s p3 := (row_setCell_other (row_setCell_other rn (g := (w.heap.size + 1)) (by omega) 3 (.int .u16 np)) (g := (w.heap.size + 1)) (by omega) 4 (.int .u8 ns))
        have gr3 := (grown_setCellN (grown_setCellN (grown_trans gr2 gn) (k := (w.heap.size + 1)) (by omega) 3 (.int .u16 np)) (k := (w.heap.size + 1)) (by omega) 4 (.int .u8 ns))
        clear x1_2 x2_2 r2 gr2 rn gn x2n e3 f3 e4 f4
        generalize ((wn.setCell ⟨(w.heap.size + 1), 3, none⟩ (.int .u16 np)).setCell ⟨(w.heap.size + 1), 4, none⟩ (.int .u8 ns)) = W3 at x1_3 x2_3 r3 gr3 ⊢
        have HC3 : Hid _ := fun w r => sized_read g s 66 p3 w r hs (by omega) (by decide)
        unfold eS at HC3
        cases hq3 : pSized s 66 p3 with
        | none =>
          rw [hq3] at HC3
          have HRN : Hid (∀ w', w.grownBy w' (some g) → PP (.panicked gup) w') := fun w' gr => by
            rw [HP.out]; simp only [show pOld s a = none from by unfold pOld; simp only [hq0, hq1, hq2, hq3, Option.bind_none, Option.bind_some]]; exact ⟨rfl, gr⟩
          go_wp2_with (go_at_call 70; refine (HC3.out _ r3).mono ?_; clear HC3; rintro e wn ⟨rfl, gn⟩)
          exact ⟨rfl, HRN.out _ (grown_trans gr3 gn)⟩
        | some x =>
          obtain ⟨xd, p4⟩ := x
          rw [hq3] at HC3
          have hb_p4 := (pSized_at hq3).1
          go_upto_region 6 with (first
            | (go_at_call 70; refine (HC3.out _ r3).mono ?_; clear HC3; rintro e wn ⟨rfl, rn, gn⟩; have x2n := Row.grown x2_3 gn (fun q => by cases q; omega); have e5 := row_at x2n 5 _ rfl; have f5 := row_frozen x2n 5))
          have x2_4 := (row_set x2n 5 (.string xd))
          have x1_4 := (row_setCell_other (Row.grown x1_3 gn (fun q => by cases q; omega)) (g := (w.heap.size + 1)) (by omega) 5 (.string xd))
          have r4 : Rd (wn.setCell ⟨(w.heap.size + 1), 5, none⟩ (.string xd)) g s p4 := (row_setCell_other rn (g := (w.heap.size + 1)) (by omega) 5 (.string xd))
          have gr4 := (grown_setCellN (grown_trans gr3 gn) (k := (w.heap.size + 1)) (by omega) 5 (.string xd))
          clear x1_3 x2_3 r3 gr3 rn gn x2n e5 f5
          generalize (wn.setCell ⟨(w.heap.size + 1), 5, none⟩ (.string xd)) = W4 at x1_4 x2_4 r4 gr4 ⊢
          have HRS : Hid (∀ w', Rd w' g s p4 → w.grownBy w' (some g) → PP (.returned (.agg #[.bool true, .int .u16 pg, .int .u32 ts, .int .u16 np, .int .u8 ns, .string xd])) w') := fun w' r gr => by
            rw [HP.out]; simp only [show pOld s a = some (⟨true, pg, ts, np, ns, xd⟩, p4) from by unfold pOld; simp only [hq0, hq1, hq2, hq3, Option.bind_none, Option.bind_some]]; exact ⟨rfl, r, gr⟩
          simp only [List.setIfInBounds_toArray, List.set_cons_zero, List.set_cons_succ] at x2_4
          go_wp2_with (first
            | (refine load_cells rfl 31 (.tmp 3) rfl (w.heap.size + 1) rfl 31 _ x2_4 6 Try.underlying31 rfl size31 rfl ?_)
            | (refine store_cells rfl 31 (.tmp 2) (.tmp 19) rfl w.heap.size _ rfl rfl 31 _ x1_4 6 size31 rfl rfl (by simp [Value.oneCell']) ?_))
          refine bodyPost_ret (v := .agg #[.bool true, .int .u16 pg, .int .u32 ts, .int .u16 np, .int .u8 ns, .string xd]) ?_ rfl ?_
          rotate_left
          · exact HRS.out _ (r4.other (by omega) _) (grown_setRow gr4 hgl (Nat.le_refl _) _)
          · exact ret_cell (fn := Try.f71) rfl _ _ w.heap.size 31 _ _ rfl (x1_4.set _) Try.underlying31 rfl size31
theorem empty_list0 : ByteArray.toList { data := #[] } = [] := by rw [ByteArray.toList_eq]
theorem str_empty (s : ByteArray) (h : s.size = 0) : s = { data := #[] } := by
  obtain ⟨d⟩ := s
  have : d.size = 0 := h
  rw [Array.eq_empty_of_size_eq_zero this]
theorem str_ne (s : ByteArray) (h : 1 ≤ s.size) : ¬ s.toList = [] ∧ s.toList.isEmpty = false := by
  have e : ¬ s.toList = [] := fun q => by
    rw [ByteArray.toList_eq] at q
    have : s.data.size = 0 := by rw [← Array.length_toList, q]; rfl
    have h2 : s.data.size = s.size := rfl
    omega
  exact ⟨e, by cases hh : s.toList with | nil => exact absurd hh e | cons a b => rfl⟩
/-- A text as a payload: noughts behind. -/
def padI (x : ByteArray) : List Int := splice (zs 224) 0 (nums x)
def okI (x : ByteArray) : Bool := decide (x.size = 0) || decide (byteAt x (x.size - 1) ≠ 0)
theorem padI_length (x : ByteArray) (h : x.size ≤ 224) : (padI x).length = 224 := by unfold padI; rw [length_splice _ _ _ (by rw [zs_length, nums_length]; omega), zs_length]
def pImg (s : ByteArray) (a : Nat) : Option (List Int × Nat) := (pSized s 224 a).bind fun x => if okI x.1 then some (padI x.1, x.2) else none
def eI (l : List Int) : Value := .agg (bs l)
theorem pImg_at {s : ByteArray} {a : Nat} {v : List Int} {b : Nat} (h : pImg s a = some (v, b)) : b ≤ a + 225 ∧ v.length = 224 := by
  unfold pImg at h
  cases h1 : pSized s 224 a with
  | none => simp [h1] at h
  | some x =>
    obtain ⟨t, c⟩ := x
    have e := pSized_at h1
    rw [h1, Option.bind_some] at h
    simp only at h
    split at h
    · simp at h
      rw [← h.1]
      exact ⟨by omega, padI_length t e.2⟩
    · cases h
set_option maxRecDepth 20000 in
set_option maxHeartbeats 4000000 in
theorem image_read (g : Nat) (s : ByteArray) (a : Nat) (w : World) (h : Rd w g s a) (hs : s.size ≤ maxLen) (ha : a ≤ 80000) :
    Calls Try.prog 68 #[.pointer (some ⟨g, 0, none⟩)] w fun e w' => Got w g s eI (pImg s a) e w' := by
  have hgl := h.lt
  have hz := zero26
  have HMU : Hid _ := fun b w => must_any (.pointer (some ⟨g, 0, none⟩)) b w
  have r0 : Rd (w.alloc (.cells (bs (zs 224)) 26)) g s a := Row.alloc h _
  have x1 : Row (w.alloc (.cells (bs (zs 224)) 26)) w.heap.size (bs (zs 224)) 26 := Row.new _ _ _
  have gr0 : w.grownBy (w.alloc (.cells (bs (zs 224)) 26)) (some g) := World.grownBy_alloc w _ _
  have HC : Hid _ := fun w r => sized_read g s 224 a w r hs (by omega) (by decide)
  unfold eS at HC
  obtain ⟨PP, HP⟩ : ∃ P : Ending → World → Prop, Hid (P = fun e w' => Got w g s eI (pImg s a) e w') := ⟨_, rfl⟩
  rw [show (fun e w' => Got w g s eI (pImg s a) e w') = PP from HP.out.symm]
  go_enter Try.func68, Try.ntmps68
  go_upto_region 1 with fail
  generalize w.alloc (.cells (bs (zs 224)) 26) = W0 at r0 x1 gr0 ⊢
  cases hq : pSized s 224 a with
  | none =>
    rw [hq] at HC
    have HRN : Hid (∀ w', w.grownBy w' (some g) → PP (.panicked gup) w') := fun w' gr => by
      rw [HP.out]; simp only [show pImg s a = none from by unfold pImg; simp only [hq, Option.bind_none]]; exact ⟨rfl, gr⟩
    go_wp2_with (go_at_call 70; refine (HC.out _ r0).mono ?_; clear HC; rintro e wn ⟨rfl, gn⟩)
    exact ⟨rfl, HRN.out _ (grown_trans gr0 gn)⟩
  | some x =>
    obtain ⟨X, b⟩ := x
    rw [hq] at HC
    have hXs := (pSized_at hq).2
    go_upto_region 2 with (go_at_call 70; refine (HC.out _ r0).mono ?_; clear HC; rintro e wn ⟨rfl, rn, gn⟩)
    have x1n := Row.grown x1 gn (fun q => by cases q; omega)
    have grn := grown_trans gr0 gn
    have hgn := x1n.lt
    clear x1 r0 gr0 gn
    by_cases c0 : X.size = 0
    · have HOK : Hid (okI X = true) := by show _ = _; unfold okI; rw [decide_eq_true c0]; rfl
      have HRS : Hid (∀ w', Rd w' g s b → w.grownBy w' (some g) → PP (.returned (.agg (bs (padI X)))) w') := fun w' r gr => by
        rw [HP.out]; simp only [show pImg s a = some (padI X, b) from by unfold pImg; simp only [hq, Option.bind_some, HOK.out, if_true]]; exact ⟨rfl, r, gr⟩
      have HXE : Hid (X = { data := #[] }) := str_empty X c0
      have hxl : X.toList = [] := by rw [HXE.out]; exact empty_list0
      clear c0 hq
      go_upto_region 4 with (go_at_call 47; refine (HMU.out _ _).mono ?_; clear HMU; rintro e wm ⟨he, hww⟩; rw [hww]; clear hww; obtain rfl := he)
      have za : Row (wn.alloc (.cells (bs (zs 224)) 26)) wn.heap.size (bs (zs 224)) 26 := Row.new _ _ _
      have zb := x1n.alloc (.cells (bs (zs 224)) 26)
      have zr : Rd (wn.alloc (.cells (bs (zs 224)) 26)) g s b := Row.alloc rn _
      have zg := grown_trans grn (World.grownBy_alloc wn (.cells (bs (zs 224)) 26) (some g))
      clear rn grn x1n
      generalize wn.alloc (.cells (bs (zs 224)) 26) = Wa at za zb zr zg ⊢
      generalize wn.heap.size = ga at za hgn ⊢
      have hpl := padI_length X hXs
      go_upto_region 5 with (refine copy_text rfl (.tmp 19) (.tmp 20) 61 9 rfl 5 Try.underlying61 size5 ga 0 224 224 rfl (nums X) (nums_bytes _) (by rw [tx_nums]; rfl) (bs (zs 224)) 26 za (by rw [nums_length]; exact hXs) (by rw [nums_length, bs_size, zs_length]; omega) _ rfl ?_)
      try simp only [Act.put, List.setIfInBounds_toArray, List.set_cons_zero, List.set_cons_succ]
      rw [show laidIn (bs (zs 224)) 0 (nums X) = bs (padI X) from laidIn_bs _ _ _]
      have yc := za.set (bs (padI X))
      have yb := zb.other (g := ga) (by omega) (bs (padI X))
      have yr : Rd _ g s b := zr.other (k := ga) (by omega) (bs (padI X))
      have yg := grown_setRow zg hgl (k := ga) (by omega) (bs (padI X))
      clear za zb zr zg
      generalize Wa.setRow ga (bs (padI X)) = Wb at yc yb yr yg ⊢
      have hps : (bs (padI X)).size = 224 := by rw [bs_size]; exact hpl
      go_wp2_with (first
        | (refine load_row rfl 26 (.tmp 4) rfl ga rfl 26 (bs (padI X)) yc 224 5 Try.underlying26 size26 hps ?_)
        | (refine store_row rfl 26 (.tmp 2) (.tmp 22) rfl w.heap.size (padI X) rfl rfl 26 _ yb 224 size26 (by rw [bs_size, zs_length]) hpl ?_))
      refine bodyPost_ret (v := .agg (bs (padI X))) ?_ rfl ?_
      rotate_left
      · exact HRS.out _ (yr.other (by omega) _) (grown_setRow yg hgl (Nat.le_refl _) _)
      · exact ret_row (fn := Try.f68) rfl _ _ w.heap.size 26 (bs (padI X)) 224 5 rfl (yb.set _) Try.underlying26 size26 hps
    · obtain ⟨hn1, hn2⟩ := str_ne X (by omega)
      obtain ⟨m, hm⟩ : ∃ m : Nat, (X.size : Int) - 1 = m := ⟨X.size - 1, by omega⟩
      have hmX : m < X.size := by omega
      have hmI : (m : Int) < (X.size : Int) := by omega
      have HBY : Hid (byteAt X (X.size - 1) = ((X[m]'hmX).toNat : Int)) := by show _ = _; rw [show X.size - 1 = m by omega]; exact byteAt_in X m hmX
      obtain ⟨x, hx⟩ : ∃ x, ((X[m]'hmX).toNat) = x := ⟨_, rfl⟩
      by_cases cz : x = 0
      · have HOK : Hid (okI X = false) := by show _ = _; unfold okI; rw [decide_eq_false c0, HBY.out, hx, cz]; rfl
        have HRN : Hid (∀ w', w.grownBy w' (some g) → PP (.panicked gup) w') := fun w' gr => by
          rw [HP.out]; simp only [show pImg s a = none from by unfold pImg; simp only [hq, Option.bind_some, HOK.out]; rfl]; exact ⟨rfl, gr⟩
        subst cz
        clear c0 hq
        go_wp2_with (go_at_call 47; refine (HMU.out _ _).mono ?_; clear HMU; rintro e wm ⟨he, hww⟩; rw [hww]; clear hww; obtain rfl := he)
        exact ⟨rfl, HRN.out _ grn⟩
      · have HOK : Hid (okI X = true) := by show _ = _; unfold okI; rw [HBY.out, hx, decide_eq_true (show (x : Int) ≠ 0 by omega)]; simp
        have HRS : Hid (∀ w', Rd w' g s b → w.grownBy w' (some g) → PP (.returned (.agg (bs (padI X)))) w') := fun w' r gr => by
          rw [HP.out]; simp only [show pImg s a = some (padI X, b) from by unfold pImg; simp only [hq, Option.bind_some, HOK.out, if_true]]; exact ⟨rfl, r, gr⟩
        have hxz : ((x : Int) != 0) = true := by simp; omega
        clear c0 hq
        go_upto_region 4 with (go_at_call 47; refine (HMU.out _ _).mono ?_; clear HMU; rintro e wm ⟨he, hww⟩; rw [hww]; clear hww; obtain rfl := he)
        have za : Row (wn.alloc (.cells (bs (zs 224)) 26)) wn.heap.size (bs (zs 224)) 26 := Row.new _ _ _
        have zb := x1n.alloc (.cells (bs (zs 224)) 26)
        have zr : Rd (wn.alloc (.cells (bs (zs 224)) 26)) g s b := Row.alloc rn _
        have zg := grown_trans grn (World.grownBy_alloc wn (.cells (bs (zs 224)) 26) (some g))
        clear rn grn x1n
        generalize wn.alloc (.cells (bs (zs 224)) 26) = Wa at za zb zr zg ⊢
        generalize wn.heap.size = ga at za hgn ⊢
        have hpl := padI_length X hXs
        go_upto_region 5 with (refine copy_text rfl (.tmp 19) (.tmp 20) 61 9 rfl 5 Try.underlying61 size5 ga 0 224 224 rfl (nums X) (nums_bytes _) (by rw [tx_nums]; rfl) (bs (zs 224)) 26 za (by rw [nums_length]; exact hXs) (by rw [nums_length, bs_size, zs_length]; omega) _ rfl ?_)
        try simp only [Act.put, List.setIfInBounds_toArray, List.set_cons_zero, List.set_cons_succ]
        rw [show laidIn (bs (zs 224)) 0 (nums X) = bs (padI X) from laidIn_bs _ _ _]
        have yc := za.set (bs (padI X))
        have yb := zb.other (g := ga) (by omega) (bs (padI X))
        have yr : Rd _ g s b := zr.other (k := ga) (by omega) (bs (padI X))
        have yg := grown_setRow zg hgl (k := ga) (by omega) (bs (padI X))
        clear za zb zr zg
        generalize Wa.setRow ga (bs (padI X)) = Wb at yc yb yr yg ⊢
        have hps : (bs (padI X)).size = 224 := by rw [bs_size]; exact hpl
        go_wp2_with (first
          | (refine load_row rfl 26 (.tmp 4) rfl ga rfl 26 (bs (padI X)) yc 224 5 Try.underlying26 size26 hps ?_)
          | (refine store_row rfl 26 (.tmp 2) (.tmp 22) rfl w.heap.size (padI X) rfl rfl 26 _ yb 224 size26 (by rw [bs_size, zs_length]) hpl ?_))
        refine bodyPost_ret (v := .agg (bs (padI X))) ?_ rfl ?_
        rotate_left
        · exact HRS.out _ (yr.other (by omega) _) (grown_setRow yg hgl (Nat.le_refl _) _)
        · exact ret_row (fn := Try.f68) rfl _ _ w.heap.size 26 (bs (padI X)) 224 5 rfl (yb.set _) Try.underlying26 size26 hps
end Go.Proofs.Ytihjapfgllokgaa
