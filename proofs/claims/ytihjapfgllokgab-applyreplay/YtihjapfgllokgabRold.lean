/-
  Proved here: page.reader's old: the record that stands at the reader's place.
-/
import Derived.Test.YtihjapfgllokgabUndo
namespace Go.Proofs.Ytihjapfgllokgab
open Go.ChangeShapes Go.WideShapes Go.ChangeAt Go.RowKit
set_option linter.unusedVariables false
set_option linter.unusedSimpArgs false
set_option maxRecDepth 20000

/-- The record that stands at a place. -/
def oAt (l : List Int) (a : Nat) : O :=
  if getN (strOfNums l) a 1 = 0 then O.zero else
    ⟨true, getN (strOfNums l) (a + 1) 2, getN (strOfNums l) (a + 3) 4, getN (strOfNums l) (a + 7) 2, getN (strOfNums l) (a + 9) 1, strOfNums ((l.drop (a + 11)).take (getN (strOfNums l) (a + 10) 1).toNat)⟩
/-- The place behind it. -/
def oNext (l : List Int) (a : Nat) : Nat := if getN (strOfNums l) a 1 = 0 then a + 1 else a + 11 + (getN (strOfNums l) (a + 10) 1).toNat
theorem oAt_fits (l : List Int) (a : Nat) : (oAt l a).Fits := by
  unfold oAt
  split
  · exact O.zero_fits
  · have f1 := getN_fits (strOfNums l) (a + 1) 2
    have f2 := getN_fits (strOfNums l) (a + 3) 4
    have f3 := getN_fits (strOfNums l) (a + 7) 2
    have f4 := getN_fits (strOfNums l) (a + 9) 1
    exact ⟨⟨f1.1, by have := f1.2; simp only; omega⟩, ⟨f2.1, by have := f2.2; simp only; omega⟩, ⟨f3.1, by have := f3.2; simp only; omega⟩, ⟨f4.1, by have := f4.2; simp only; omega⟩⟩
theorem oNext_le (l : List Int) (a : Nat) : a < oNext l a ∧ oNext l a ≤ a + 266 := by
  have f := getN_fits (strOfNums l) (a + 10) 1
  unfold oNext
  split <;> omega
theorem built81one : (Try.prog.built 35 [(0, .bool true)]) = some #[.bool true, .int .u16 0, .int .u32 0, .int .u16 0, .int .u8 0, .string ByteArray.empty] := by kernel_rfl

set_option maxHeartbeats 1000000 in
theorem old_any (g : Nat) (l : List Int) (a : Nat) (w : World) (hr : Row w g #[.string (strOfNums l), .int .i64 a] 75) (hs : l.length ≤ 1000) (ha : a ≤ 400000) :
    Calls Try.prog 41 #[.pointer (some ⟨g, 0, none⟩)] w fun e w' => e = .returned (.agg (oAt l a).arr) ∧ Row w' g #[.string (strOfNums l), .int .i64 (oNext l a)] 75 ∧ Off (· = g) w w' := by
  have hsz : (strOfNums l).size ≤ maxLen := by rw [strOfNums_size]; unfold maxLen; omega
  have hz := zero35
  have hlt := hr.lt
  have r0 := hr.alloc (.cells #[.bool false, .int .u16 0, .int .u32 0, .int .u16 0, .int .u8 0, .string ByteArray.empty] 35)
  have q0 : Row (w.alloc (.cells #[.bool false, .int .u16 0, .int .u32 0, .int .u16 0, .int .u8 0, .string ByteArray.empty] 35)) w.heap.size #[.bool false, .int .u16 0, .int .u32 0, .int .u16 0, .int .u8 0, .string ByteArray.empty] 35 := Row.new _ _ _
  have o0 : Off (· = g) w (w.alloc (.cells #[.bool false, .int .u16 0, .int .u32 0, .int .u16 0, .int .u8 0, .string ByteArray.empty] 35)) := Off.of_below ((Below.refl _ _).alloc (Nat.le_refl _) _)
  have f0 := getN_fits (strOfNums l) a 1
  have f1 := getN_fits (strOfNums l) (a + 1) 2
  have f2 := getN_fits (strOfNums l) (a + 3) 4
  have f5 := getN_fits (strOfNums l) (a + 10) 1
  have HN1 : Hid _ := fun w h => number_any g (strOfNums l) a 1 w h hsz (by decide) (by omega)
  have HN2 : Hid _ := fun w h => number_any g (strOfNums l) (a + 1) 2 w h hsz (by decide) (by omega)
  have HN3 : Hid _ := fun w h => number_any g (strOfNums l) (a + 3) 4 w h hsz (by decide) (by omega)
  have HRF : Hid _ := fun w h => rref_any g (strOfNums l) (a + 7) w h hsz (by omega)
  have HN5 : Hid _ := fun w h => number_any g (strOfNums l) (a + 10) 1 w h hsz (by decide) (by omega)
  have HBY : Hid _ := fun w h => bytes_any g l (a + 11) (getN (strOfNums l) (a + 10) 1).toNat w h hs (by omega) (by omega)
  by_cases hv : getN (strOfNums l) a 1 = 0
  · have HO : Hid (oAt l a = O.zero) := by show _ = _; unfold oAt; rw [if_pos hv]
    have HX : Hid (oNext l a = a + 1) := by show _ = _; unfold oNext; rw [if_pos hv]
    rw [hv] at HN1
    generalize strOfNums l = S at *
    go_enter Try.func41, Try.ntmps41
    go_wp2_with (first
      | (go_at_call 28; refine (HN1.out _ r0).mono ?_; clear HN1; rintro e w1 ⟨rfl, r1, o1⟩
         have q1 := q0.off o1 (by omega))
      | (refine build_none rfl 35 rfl _ built35 ?_)
      | (refine store_cells rfl 35 (.tmp 2) (.tmp 7) rfl w.heap.size #[.bool false, .int .u16 0, .int .u32 0, .int .u16 0, .int .u8 0, .string ByteArray.empty] rfl rfl 35 _ q1 6 size35 rfl rfl (by simp [Value.oneCell']) ?_))
    refine bodyPost_ret (v := .agg #[.bool false, .int .u16 0, .int .u32 0, .int .u16 0, .int .u8 0, .string ByteArray.empty]) ?_ rfl ⟨by rw [HO.out]; rfl, by rw [HX.out]; exact r1.other (by omega) _, (o0.trans o1 (fun j h => Or.inl h)).trans (Off.of_setRow (F := (· = w.heap.size)) _ _ _ rfl) (fun j h => Or.inr (by omega))⟩
    exact ret_cell (fn := Try.f41) rfl _ _ w.heap.size 35 _ _ rfl (q1.set _) Try.underlying35 rfl size35
  · have HO : Hid ((oAt l a).arr = #[.bool true, .int .u16 (getN (strOfNums l) (a + 1) 2), .int .u32 (getN (strOfNums l) (a + 3) 4), .int .u16 (getN (strOfNums l) (a + 7) 2), .int .u8 (getN (strOfNums l) (a + 9) 1), .string (strOfNums ((l.drop (a + 11)).take (getN (strOfNums l) (a + 10) 1).toNat))]) := by show _ = _; unfold oAt; rw [if_neg hv]; rfl
    have HX : Hid (oNext l a = a + 11 + (getN (strOfNums l) (a + 10) 1).toNat) := by show _ = _; unfold oNext; rw [if_neg hv]
    have hnat : ((getN (strOfNums l) (a + 10) 1).toNat : Int) = getN (strOfNums l) (a + 10) 1 := by omega
    have hn5 : (getN (strOfNums l) (a + 10) 1).toNat ≤ 255 := by omega
    obtain ⟨B, HB⟩ : ∃ B, Hid (strOfNums ((l.drop (a + 11)).take (getN (strOfNums l) (a + 10) 1).toNat) = B) := ⟨_, rfl⟩
    obtain ⟨n5, HN⟩ : ∃ B, Hid ((getN (strOfNums l) (a + 10) 1).toNat = B) := ⟨_, rfl⟩
    rw [HB.out] at HO HBY
    rw [HN.out] at HBY HX hnat hn5
    obtain ⟨v0, HV0⟩ : ∃ B, Hid (getN (strOfNums l) a 1 = B) := ⟨_, rfl⟩
    obtain ⟨v1, HV1⟩ : ∃ B, Hid (getN (strOfNums l) (a + 1) 2 = B) := ⟨_, rfl⟩
    obtain ⟨v2, HV2⟩ : ∃ B, Hid (getN (strOfNums l) (a + 3) 4 = B) := ⟨_, rfl⟩
    obtain ⟨v3, HV3⟩ : ∃ B, Hid (getN (strOfNums l) (a + 7) 2 = B) := ⟨_, rfl⟩
    obtain ⟨v4, HV4⟩ : ∃ B, Hid (getN (strOfNums l) (a + 9) 1 = B) := ⟨_, rfl⟩
    rw [HV0.out] at HN1 hv f0
    rw [HV1.out] at HN2 HO f1
    rw [HV2.out] at HN3 HO f2
    rw [show a + 7 + 2 = a + 9 by omega, HV3.out, HV4.out] at HRF
    rw [HV3.out, HV4.out] at HO
    rw [← hnat] at HN5
    have e1 : IntKind.u16.wrap v1 = v1 := by rw [IntKind.wrap_u16]; omega
    have e2 : IntKind.u32.wrap v2 = v2 := by rw [IntKind.wrap_u32]; omega
    have e1' : v1 % 65536 = v1 := by omega
    have e2' : v2 % 4294967296 = v2 := by omega
    have e5 : IntKind.i64.wrap (n5 : Int) = n5 := by rw [IntKind.wrap_i64]; omega
    have hv' : (v0 == 0) = false := by simp [hv]
    obtain ⟨S, HS⟩ : ∃ S, Hid (strOfNums l = S) := ⟨_, rfl⟩
    rw [HS.out] at HN1 HN2 HN3 HRF HN5 HBY r0 ⊢
    clear hr hv hsz f0 f1 f2 f5 hnat
    go_enter Try.func41, Try.ntmps41
    go_upto_region 3 with (go_at_call 28; refine (HN1.out _ r0).mono ?_; clear HN1; rintro e w1 ⟨rfl, r1, o1⟩)
    have q1 := q0.off o1 (show ¬ w.heap.size = g by omega)
    have o1 := o0.trans o1 (fun j h => Or.inl h)
    clear r0 q0 o0
    have hl1 : w.heap.size < w1.heap.size := q1.lt
    have x0 : Row (w1.alloc (.cells #[.bool false, .int .u16 0, .int .u32 0, .int .u16 0, .int .u8 0, .string ByteArray.empty] 35)) w1.heap.size #[.bool false, .int .u16 0, .int .u32 0, .int .u16 0, .int .u8 0, .string ByteArray.empty] 35 := Row.new _ _ _
    go_upto_region 4 with (first
      | (refine build_one rfl 35 _ rfl _ rfl _ built81one ?_)
      | (refine store_cells rfl 35 (.tmp 3) (.tmp 8) rfl w1.heap.size #[.bool true, .int .u16 0, .int .u32 0, .int .u16 0, .int .u8 0, .string ByteArray.empty] rfl rfl 35 _ x0 6 size35 rfl rfl (by simp [Value.oneCell']) ?_))
    have x1 := x0.set #[.bool true, .int .u16 0, .int .u32 0, .int .u16 0, .int .u8 0, .string ByteArray.empty]
    have r2 := (r1.alloc (.cells #[.bool false, .int .u16 0, .int .u32 0, .int .u16 0, .int .u8 0, .string ByteArray.empty] 35)).other (g := w1.heap.size) (by omega) #[.bool true, .int .u16 0, .int .u32 0, .int .u16 0, .int .u8 0, .string ByteArray.empty]
    have q2 := (q1.alloc (.cells #[.bool false, .int .u16 0, .int .u32 0, .int .u16 0, .int .u8 0, .string ByteArray.empty] 35)).other (g := w1.heap.size) (by omega) #[.bool true, .int .u16 0, .int .u32 0, .int .u16 0, .int .u8 0, .string ByteArray.empty]
    have o2 : Off (· = g) w ((w1.alloc (.cells #[.bool false, .int .u16 0, .int .u32 0, .int .u16 0, .int .u8 0, .string ByteArray.empty] 35)).setRow w1.heap.size #[.bool true, .int .u16 0, .int .u32 0, .int .u16 0, .int .u8 0, .string ByteArray.empty]) :=
      (o1.trans (Off.of_below (F := fun _ => False) ((Below.refl _ _).alloc (Nat.le_refl _) _)) (fun j h => h.elim)).trans (Off.of_setRow (F := (· = w1.heap.size)) _ _ _ rfl) (fun j h => Or.inr (by omega))
    clear x0 r1 q1 o1
    generalize (w1.alloc (.cells #[.bool false, .int .u16 0, .int .u32 0, .int .u16 0, .int .u8 0, .string ByteArray.empty] 35)).setRow w1.heap.size #[.bool true, .int .u16 0, .int .u32 0, .int .u16 0, .int .u8 0, .string ByteArray.empty] = w2 at x1 r2 q2 o2 ⊢
    generalize w1.heap.size = h at x1 hl1 ⊢
    have hgh : g < h := by omega
    go_upto_region 5 with (go_at_call 28; refine (HN2.out _ r2).mono ?_; clear HN2; rintro e w3 ⟨rfl, r3, o3⟩
                           have x3 := x1.off o3 (show ¬ h = g by omega)
                           have cc := row_at x3 1 _ rfl
                           have cf := row_frozen x3 1)
    have q3 := row_setCell_other (q2.off o3 (show ¬ w.heap.size = g by omega)) (show w.heap.size ≠ h by omega) 1 (.int .u16 v1)
    have r4 := row_setCell_other r3 (show g ≠ h by omega) 1 (.int .u16 v1)
    have x4 : Row (w3.setCell ⟨h, 1, none⟩ (.int .u16 v1)) h #[.bool true, .int .u16 v1, .int .u32 0, .int .u16 0, .int .u8 0, .string ByteArray.empty] 35 := row_set x3 1 _
    have o4 : Off (· = g) w (w3.setCell ⟨h, 1, none⟩ (.int .u16 v1)) := (o2.trans o3 (fun j h => Or.inl h)).trans (Off.of_setCell (F := (· = h)) _ _ _ rfl) (fun j h => Or.inr (by omega))
    clear cc cf x3 x1 r2 r3 q2 o2 o3
    generalize w3.setCell ⟨h, 1, none⟩ (.int .u16 v1) = w4 at q3 r4 x4 o4 ⊢
    go_upto_region 6 with (go_at_call 28; refine (HN3.out _ r4).mono ?_; clear HN3; rintro e w5 ⟨rfl, r5, o5⟩
                           have x5 := x4.off o5 (show ¬ h = g by omega)
                           have cc := row_at x5 2 _ rfl
                           have cf := row_frozen x5 2)
    have q5 := row_setCell_other (q3.off o5 (show ¬ w.heap.size = g by omega)) (show w.heap.size ≠ h by omega) 2 (.int .u32 v2)
    have r6 := row_setCell_other r5 (show g ≠ h by omega) 2 (.int .u32 v2)
    have x6 : Row (w5.setCell ⟨h, 2, none⟩ (.int .u32 v2)) h #[.bool true, .int .u16 v1, .int .u32 v2, .int .u16 0, .int .u8 0, .string ByteArray.empty] 35 := row_set x5 2 _
    have o6 : Off (· = g) w (w5.setCell ⟨h, 2, none⟩ (.int .u32 v2)) := (o4.trans o5 (fun j h => Or.inl h)).trans (Off.of_setCell (F := (· = h)) _ _ _ rfl) (fun j h => Or.inr (by omega))
    clear cc cf x5 x4 r4 r5 q3 o4 o5
    generalize w5.setCell ⟨h, 2, none⟩ (.int .u32 v2) = w6 at q5 r6 x6 o6 ⊢
    go_upto_region 7 with (go_at_call 29; refine (HRF.out _ r6).mono ?_; clear HRF; rintro e w7 ⟨rfl, r7, o7⟩
                           have x7 := x6.off o7 (show ¬ h = g by omega)
                           have cc := row_at x7 3 _ rfl
                           have cf := row_frozen x7 3
                           have cd := row_at x7 4 _ rfl
                           have cg := row_frozen x7 4)
    have q7 := row_setCell_other (row_setCell_other (q5.off o7 (show ¬ w.heap.size = g by omega)) (show w.heap.size ≠ h by omega) 3 (.int .u16 v3)) (show w.heap.size ≠ h by omega) 4 (.int .u8 v4)
    have r8 := row_setCell_other (row_setCell_other r7 (show g ≠ h by omega) 3 (.int .u16 v3)) (show g ≠ h by omega) 4 (.int .u8 v4)
    have x8 : Row ((w7.setCell ⟨h, 3, none⟩ (.int .u16 v3)).setCell ⟨h, 4, none⟩ (.int .u8 v4)) h #[.bool true, .int .u16 v1, .int .u32 v2, .int .u16 v3, .int .u8 v4, .string ByteArray.empty] 35 := row_set (row_set x7 3 _) 4 _
    have o8 : Off (· = g) w ((w7.setCell ⟨h, 3, none⟩ (.int .u16 v3)).setCell ⟨h, 4, none⟩ (.int .u8 v4)) := ((o6.trans o7 (fun j h => Or.inl h)).trans (Off.of_setCell (F := (· = h)) _ _ _ rfl) (fun j h => Or.inr (by omega))).trans (Off.of_setCell (F := (· = h)) _ _ _ rfl) (fun j h => Or.inr (by omega))
    clear cc cf cd cg x7 x6 r6 r7 q5 o6 o7
    generalize (w7.setCell ⟨h, 3, none⟩ (.int .u16 v3)).setCell ⟨h, 4, none⟩ (.int .u8 v4) = w8 at q7 r8 x8 o8 ⊢
    go_upto_region 8 with (first
      | (go_at_call 28; refine (HN5.out _ r8).mono ?_; clear HN5; rintro e w9 ⟨rfl, r9', o9⟩
         have r9 : Row w9 g #[.string S, .int .i64 ((a + 11 : Nat) : Int)] 75 := r9'
         clear r9')
      | (go_at_call 30; refine (HBY.out _ r9).mono ?_; clear HBY; rintro e w10 ⟨rfl, r10, o10⟩
         have x10 := (x8.off o9 (show ¬ h = g by omega)).off o10 (show ¬ h = g by omega)
         have cc := row_at x10 5 _ rfl
         have cf := row_frozen x10 5))
    have q10 := row_setCell_other ((q7.off o9 (show ¬ w.heap.size = g by omega)).off o10 (show ¬ w.heap.size = g by omega)) (show w.heap.size ≠ h by omega) 5 (.string B)
    have r11 := row_setCell_other r10 (show g ≠ h by omega) 5 (.string B)
    have x11 : Row (w10.setCell ⟨h, 5, none⟩ (.string B)) h #[.bool true, .int .u16 v1, .int .u32 v2, .int .u16 v3, .int .u8 v4, .string B] 35 := row_set x10 5 _
    have o11 : Off (· = g) w (w10.setCell ⟨h, 5, none⟩ (.string B)) := ((o8.trans o9 (fun j h => Or.inl h)).trans o10 (fun j h => Or.inl h)).trans (Off.of_setCell (F := (· = h)) _ _ _ rfl) (fun j h => Or.inr (by omega))
    clear cc cf x10 x8 r8 r9 r10 q7 o8 o9 o10
    generalize w10.setCell ⟨h, 5, none⟩ (.string B) = w11 at q10 r11 x11 o11 ⊢
    go_wp2_with (first
      | (refine load_cells rfl 35 (.tmp 3) rfl h rfl 35 #[.bool true, .int .u16 v1, .int .u32 v2, .int .u16 v3, .int .u8 v4, .string B] x11 6 Try.underlying35 rfl size35 rfl ?_)
      | (refine store_cells rfl 35 (.tmp 2) (.tmp 26) rfl w.heap.size #[.bool true, .int .u16 v1, .int .u32 v2, .int .u16 v3, .int .u8 v4, .string B] rfl rfl 35 _ q10 6 size35 rfl rfl (by simp [Value.oneCell']) ?_))
    refine bodyPost_ret (v := .agg #[.bool true, .int .u16 v1, .int .u32 v2, .int .u16 v3, .int .u8 v4, .string B]) ?_ rfl ⟨by rw [HO.out], by rw [HX.out]; exact r11.other (by omega) _, o11.trans (Off.of_setRow (F := (· = w.heap.size)) _ _ _ rfl) (fun j h => Or.inr (by omega))⟩
    exact ret_cell (fn := Try.f41) rfl _ _ w.heap.size 35 _ _ rfl (q10.set _) Try.underlying35 rfl size35
end Go.Proofs.Ytihjapfgllokgab
