/-
  Proved here: master.taker, the function that it makes, and master.told: the master whose numbers stand in a text.
-/
import Derived.Test.YtcbjjofckhohjaaMtx
namespace Go.Proofs.Ytcbjjofckhohjaa
open Go.ChangeShapes Go.WideShapes Go.ChangeAt Go.RowKit
set_option linter.unusedVariables false
set_option linter.unusedSimpArgs false
set_option maxRecDepth 20000

theorem below_setCell {B : Nat} {w w' : World} (h : Below B w w') {g : Nat} (hg : B ≤ g) (j : Nat) (v : Value) : Below B w (w'.setCell ⟨g, j, none⟩ v) := h.setCell hg v
theorem taker_any (s : ByteArray) (a : Int) (w : World) : Calls Try.prog 43 #[.string s, .int .i64 a] w fun e w' => e = .returned (.func (.func 52) #[] #[.pointer (some ⟨w.heap.size, 0, none⟩), .pointer (some ⟨w.heap.size + 1, 0, none⟩)]) ∧ w' = (w.alloc (.cells #[.string s] 9)).alloc (.cells #[.int .i64 a] 3) := by
  go_enter Try.func43, Try.ntmps43
  go_wp2
  go_ret
  exact ⟨rfl, rfl⟩
theorem setCell_row {w : World} {g : Nat} {v x : Value} {t : TypeId} (h : Row w g #[v] t) : w.setCell ⟨g, 0, none⟩ x = w.setRow g #[x] := by
  rw [setCell_eq_setRow w g 0 #[v] t (0, 0) _ h]; rfl
set_option maxHeartbeats 2000000 in
theorem take_at (s : ByteArray) (a n : Nat) (A N : Int) (gs ga : Nat) (q b : Int) (hA : A = a) (hN : N = n) (hq : num s a n = q) (hb : b = a + n) (hs : s.size ≤ maxLen) (hn : n ≤ 8) (ha : a + n ≤ s.size) (w : World) (rs : Row w gs #[.string s] 9) (ra : Row w ga #[.int .i64 A] 3) :
    Calls Try.prog 52 #[.int .i64 N, .pointer (some ⟨gs, 0, none⟩), .pointer (some ⟨ga, 0, none⟩)] w fun e w' => e = .returned (.int .u64 q) ∧ w' = w.setRow ga #[.int .i64 b] := by
  subst hq hA hN
  have c1 := row_at rs 0 (.string s) rfl
  have c2 := row_at ra 0 (.int .i64 a) rfl
  have f2 := row_frozen ra 0
  have HS : Hid (w.setCell ⟨ga, 0, none⟩ (.int .i64 b) = w.setRow ga #[.int .i64 b]) := setCell_row ra
  have P1 : Hid _ := fun w => get_any s a n w hs hn ha
  have e1 : IntKind.i64.wrap ((a : Int) + n) = b := by unfold maxLen at hs; rw [IntKind.wrap_i64]; omega
  clear hs ha rs ra hb
  go_enter Try.func52, Try.ntmps52
  go_wp2_with (go_at_call 53; refine (P1.out _).mono ?_; clear P1; rintro ex w' ⟨rfl, rfl⟩)
  go_ret
  exact ⟨rfl, HS.out⟩
/-- The master whose numbers stand in a text. -/
def toldM (s : ByteArray) : M := ⟨num s 6 8, num s 14 4, num s 18 4, num s 22 8, num s 30 4, num s 34 2, num s 36 2, num s 38 2, num s 40 4⟩
theorem toldM_fit (s : ByteArray) : (toldM s).Fit := by
  have p2 : (2 : Int) ^ (8 * 2) = 65536 := by decide
  have p4 : (2 : Int) ^ (8 * 4) = 4294967296 := by decide
  have p8 : (2 : Int) ^ (8 * 8) = 18446744073709551616 := by decide
  have n2 := fun o => num_fits s o 2
  have n4 := fun o => num_fits s o 4
  have n8 := fun o => num_fits s o 8
  rw [p2] at n2
  rw [p4] at n4
  rw [p8] at n8
  exact ⟨by have := n8 6; unfold toldM; dsimp only; omega, by have := n4 14; unfold toldM; dsimp only; omega, by have := n4 18; unfold toldM; dsimp only; omega, by have := n8 22; unfold toldM; dsimp only; omega, by have := n4 30; unfold toldM; dsimp only; omega, by have := n2 34; unfold toldM; dsimp only; omega, by have := n2 36; unfold toldM; dsimp only; omega, by have := n2 38; unfold toldM; dsimp only; omega, by have := n4 40; unfold toldM; dsimp only; omega⟩
theorem num2 (s : ByteArray) (o : Nat) : 0 ≤ num s o 2 ∧ num s o 2 ≤ 65535 := by
  have h := num_fits s o 2
  rw [show (2 : Int) ^ (8 * 2) = 65536 by decide] at h
  omega
theorem num4 (s : ByteArray) (o : Nat) : 0 ≤ num s o 4 ∧ num s o 4 ≤ 4294967295 := by
  have h := num_fits s o 4
  rw [show (2 : Int) ^ (8 * 4) = 4294967296 by decide] at h
  omega
set_option maxHeartbeats 4000000 in
theorem told_any (s : ByteArray) (hs : s.size = 224) (w : World) : Calls Try.prog 29 #[.string s] w fun e w' => e = .returned (.agg (mcells (toldM s))) ∧ Below w.heap.size w w' := by
  have hml : s.size ≤ maxLen := by rw [hs]; decide
  have hfit := toldM_fit s
  obtain ⟨g1, g2, g3, g4, g5, g6, g7, g8, g9⟩ := hfit
  obtain ⟨q1, hq1⟩ : ∃ q, num s 6 8 = q := ⟨_, rfl⟩
  have P1 : Hid _ := fun gs ga => take_at s 6 8 6 8 gs ga q1 14 rfl rfl hq1 (by decide) hml (by decide) (by omega)
  obtain ⟨q2, hq2⟩ : ∃ q, num s 14 4 = q := ⟨_, rfl⟩
  have P2 : Hid _ := fun gs ga => take_at s 14 4 14 4 gs ga q2 18 rfl rfl hq2 (by decide) hml (by decide) (by omega)
  obtain ⟨q3, hq3⟩ : ∃ q, num s 18 4 = q := ⟨_, rfl⟩
  have P3 : Hid _ := fun gs ga => take_at s 18 4 18 4 gs ga q3 22 rfl rfl hq3 (by decide) hml (by decide) (by omega)
  obtain ⟨q4, hq4⟩ : ∃ q, num s 22 8 = q := ⟨_, rfl⟩
  have P4 : Hid _ := fun gs ga => take_at s 22 8 22 8 gs ga q4 30 rfl rfl hq4 (by decide) hml (by decide) (by omega)
  obtain ⟨q5, hq5⟩ : ∃ q, num s 30 4 = q := ⟨_, rfl⟩
  have P5 : Hid _ := fun gs ga => take_at s 30 4 30 4 gs ga q5 34 rfl rfl hq5 (by decide) hml (by decide) (by omega)
  obtain ⟨q6, hq6⟩ : ∃ q, num s 34 2 = q := ⟨_, rfl⟩
  have P6 : Hid _ := fun gs ga => take_at s 34 2 34 2 gs ga q6 36 rfl rfl hq6 (by decide) hml (by decide) (by omega)
  obtain ⟨q7, hq7⟩ : ∃ q, num s 36 2 = q := ⟨_, rfl⟩
  have P7 : Hid _ := fun gs ga => take_at s 36 2 36 2 gs ga q7 38 rfl rfl hq7 (by decide) hml (by decide) (by omega)
  obtain ⟨q8, hq8⟩ : ∃ q, num s 38 2 = q := ⟨_, rfl⟩
  have P8 : Hid _ := fun gs ga => take_at s 38 2 38 2 gs ga q8 40 rfl rfl hq8 (by decide) hml (by decide) (by omega)
  obtain ⟨q9, hq9⟩ : ∃ q, num s 40 4 = q := ⟨_, rfl⟩
  have P9 : Hid _ := fun gs ga => take_at s 40 4 40 4 gs ga q9 44 rfl rfl hq9 (by decide) hml (by decide) (by omega)
  have HT : Hid (toldM s = ⟨q1, q2, q3, q4, q5, q6, q7, q8, q9⟩) := by show _ = _; unfold toldM; rw [hq1, hq2, hq3, hq4, hq5, hq6, hq7, hq8, hq9]
  have m2 := num4 s 14
  rw [hq2] at m2
  have e2 : IntKind.u32.wrap q2 = q2 := by rw [IntKind.wrap_u32]; omega
  have m3 := num4 s 18
  rw [hq3] at m3
  have e3 : IntKind.u32.wrap q3 = q3 := by rw [IntKind.wrap_u32]; omega
  have m5 := num4 s 30
  rw [hq5] at m5
  have e5 : IntKind.u32.wrap q5 = q5 := by rw [IntKind.wrap_u32]; omega
  have m6 := num2 s 34
  rw [hq6] at m6
  have e6 : IntKind.i64.wrap q6 = q6 := by rw [IntKind.wrap_i64]; omega
  have m7 := num2 s 36
  rw [hq7] at m7
  have e7 : IntKind.i64.wrap q7 = q7 := by rw [IntKind.wrap_i64]; omega
  have m8 := num2 s 38
  rw [hq8] at m8
  have e8 : IntKind.i64.wrap q8 = q8 := by rw [IntKind.wrap_i64]; omega
  have m9 := num4 s 40
  rw [hq9] at m9
  have e9 : IntKind.u32.wrap q9 = q9 := by rw [IntKind.wrap_u32]; omega
  rw [HT.out]
  clear g1 hq1 g2 hq2 g3 hq3 g4 hq4 g5 hq5 g6 hq6 g7 hq7 g8 hq8 g9 hq9 HT hs hml
  have hz := zero27
  have HTK : Hid _ := fun w => taker_any s 6 w
  have r0 : Row (w.alloc (.cells #[.int .u64 0, .int .u32 0, .int .u32 0, .int .u64 0, .int .u32 0, .int .i64 0, .int .i64 0, .int .i64 0, .int .u32 0] 27)) w.heap.size #[.int .u64 0, .int .u32 0, .int .u32 0, .int .u64 0, .int .u32 0, .int .i64 0, .int .i64 0, .int .i64 0, .int .u32 0] 27 := Row.new _ _ _
  have rb : Below w.heap.size w (w.alloc (.cells #[.int .u64 0, .int .u32 0, .int .u32 0, .int .u64 0, .int .u32 0, .int .i64 0, .int .i64 0, .int .i64 0, .int .u32 0] 27)) := (Below.refl _ _).alloc (Nat.le_refl _) _
  have hsz : Hid ((w.alloc (.cells #[.int .u64 0, .int .u32 0, .int .u32 0, .int .u64 0, .int .u32 0, .int .i64 0, .int .i64 0, .int .i64 0, .int .u32 0] 27)).heap.size = w.heap.size + 1) := by simp [Hid]
  go_enter Try.func29, Try.ntmps29
  go_upto_region 1 with fail
  dsimp only [zm]
  generalize w.alloc (.cells #[.int .u64 0, .int .u32 0, .int .u32 0, .int .u64 0, .int .u32 0, .int .i64 0, .int .i64 0, .int .i64 0, .int .u32 0] 27) = w1 at r0 rb hsz ⊢
  go_upto_region 3 with (go_at_call 43; refine (HTK.out _).mono ?_; clear HTK; rintro ex w' ⟨rfl, rfl⟩)
  have l0 := r0.lt
  have rS : Row (((w1.alloc (.cells #[.string s] 9)).alloc (.cells #[.int .i64 6] 3)).alloc (.cells #[.int .u64 0, .int .u32 0, .int .u32 0, .int .u64 0, .int .u32 0, .int .i64 0, .int .i64 0, .int .i64 0, .int .u32 0] 27)) w1.heap.size #[.string s] 9 := ((Row.new _ _ _).alloc _).alloc _
  have rA : Row (((w1.alloc (.cells #[.string s] 9)).alloc (.cells #[.int .i64 6] 3)).alloc (.cells #[.int .u64 0, .int .u32 0, .int .u32 0, .int .u64 0, .int .u32 0, .int .i64 0, .int .i64 0, .int .i64 0, .int .u32 0] 27)) (w1.heap.size + 1) #[.int .i64 6] 3 := by have := (Row.new (w1.alloc (.cells #[.string s] 9)) #[.int .i64 6] 3).alloc (.cells #[.int .u64 0, .int .u32 0, .int .u32 0, .int .u64 0, .int .u32 0, .int .i64 0, .int .i64 0, .int .i64 0, .int .u32 0] 27); simpa using this
  have rM : Row (((w1.alloc (.cells #[.string s] 9)).alloc (.cells #[.int .i64 6] 3)).alloc (.cells #[.int .u64 0, .int .u32 0, .int .u32 0, .int .u64 0, .int .u32 0, .int .i64 0, .int .i64 0, .int .i64 0, .int .u32 0] 27)) (w1.heap.size + 1 + 1) #[.int .u64 0, .int .u32 0, .int .u32 0, .int .u64 0, .int .u32 0, .int .i64 0, .int .i64 0, .int .i64 0, .int .u32 0] 27 := by have := Row.new ((w1.alloc (.cells #[.string s] 9)).alloc (.cells #[.int .i64 6] 3)) #[.int .u64 0, .int .u32 0, .int .u32 0, .int .u64 0, .int .u32 0, .int .i64 0, .int .i64 0, .int .i64 0, .int .u32 0] 27; simpa using this
  have rR : Row (((w1.alloc (.cells #[.string s] 9)).alloc (.cells #[.int .i64 6] 3)).alloc (.cells #[.int .u64 0, .int .u32 0, .int .u32 0, .int .u64 0, .int .u32 0, .int .i64 0, .int .i64 0, .int .i64 0, .int .u32 0] 27)) w.heap.size #[.int .u64 0, .int .u32 0, .int .u32 0, .int .u64 0, .int .u32 0, .int .i64 0, .int .i64 0, .int .i64 0, .int .u32 0] 27 := ((r0.alloc _).alloc _).alloc _
  have rB : Below w.heap.size w (((w1.alloc (.cells #[.string s] 9)).alloc (.cells #[.int .i64 6] 3)).alloc (.cells #[.int .u64 0, .int .u32 0, .int .u32 0, .int .u64 0, .int .u32 0, .int .i64 0, .int .i64 0, .int .i64 0, .int .u32 0] 27)) := ((rb.alloc rb.size _).alloc (by have := rb.size; simp; omega) _).alloc (by have := rb.size; simp; omega) _
  have hsy := hsz.out
  clear hsz
  clear hz r0 rb
  show Code.wp _ _ _ _ (((w1.alloc (.cells #[.string s] 9)).alloc (.cells #[.int .i64 6] 3)).alloc (.cells #[.int .u64 0, .int .u32 0, .int .u32 0, .int .u64 0, .int .u32 0, .int .i64 0, .int .i64 0, .int .i64 0, .int .u32 0] 27))
  generalize (((w1.alloc (.cells #[.string s] 9)).alloc (.cells #[.int .i64 6] 3)).alloc (.cells #[.int .u64 0, .int .u32 0, .int .u32 0, .int .u64 0, .int .u32 0, .int .i64 0, .int .i64 0, .int .i64 0, .int .u32 0] 27)) = wk at rS rA rM rR rB ⊢
  obtain ⟨gs, hgs⟩ : ∃ g, w1.heap.size = g := ⟨_, rfl⟩
  rw [hgs] at rS rA rM hsy l0 ⊢
  obtain ⟨ga, hga⟩ : ∃ g, gs + 1 = g := ⟨_, rfl⟩
  rw [hga] at rA rM ⊢
  obtain ⟨gm, hgm⟩ : ∃ g, ga + 1 = g := ⟨_, rfl⟩
  rw [hgm] at rM ⊢
  have n1 : gs ≠ ga := by omega
  have n2 : gm ≠ ga := by omega
  have n3 : w.heap.size ≠ ga := by omega
  have n4 : gs ≠ gm := by omega
  have n5 : ga ≠ gm := by omega
  have n6 : w.heap.size ≠ gm := by omega
  have n7 : w.heap.size ≤ ga := by omega
  have n8 : w.heap.size ≤ gm := by omega
  clear hgs hga hgm hsy l0 w1
  have xM := rM.other (g := ga) n2 #[.int .i64 14]
  have cM := row_at xM 0 (.int .u64 0) rfl
  have fM := row_frozen xM 0
  have xS := rS.other (g := ga) n1 #[.int .i64 14]
  have xA := rA.set #[.int .i64 14]
  have xR := rR.other (g := ga) n3 #[.int .i64 14]
  have xB := below_setRow rB n7 #[.int .i64 14]
  have zM : Row ((wk.setRow ga #[.int .i64 14]).setCell ⟨gm, 0, none⟩ (.int .u64 q1)) gm #[.int .u64 q1, .int .u32 0, .int .u32 0, .int .u64 0, .int .u32 0, .int .i64 0, .int .i64 0, .int .i64 0, .int .u32 0] 27 := row_set xM 0 _
  have zS := row_setCell_other xS n4 0 (.int .u64 q1)
  have zA := row_setCell_other xA n5 0 (.int .u64 q1)
  have zR := row_setCell_other xR n6 0 (.int .u64 q1)
  have zB := below_setCell xB n8 0 (.int .u64 q1)
  clear xM xS xA xR xB
  go_upto_region 4 with (go_at_call 52; refine (P1.out gs ga _ rS rA).mono ?_; clear P1 rS rA; rintro ex w' ⟨rfl, rfl⟩)
  clear rM rR rB cM fM
  generalize (wk.setRow ga #[.int .i64 14]).setCell ⟨gm, 0, none⟩ (.int .u64 q1) = wk at zM zS zA zR zB ⊢
  have rM := zM
  have rS := zS
  have rA := zA
  have rR := zR
  have rB := zB
  clear zM zS zA zR zB
  have xM := rM.other (g := ga) n2 #[.int .i64 18]
  have cM := row_at xM 1 (.int .u32 0) rfl
  have fM := row_frozen xM 1
  have xS := rS.other (g := ga) n1 #[.int .i64 18]
  have xA := rA.set #[.int .i64 18]
  have xR := rR.other (g := ga) n3 #[.int .i64 18]
  have xB := below_setRow rB n7 #[.int .i64 18]
  have zM : Row ((wk.setRow ga #[.int .i64 18]).setCell ⟨gm, 1, none⟩ (.int .u32 q2)) gm #[.int .u64 q1, .int .u32 q2, .int .u32 0, .int .u64 0, .int .u32 0, .int .i64 0, .int .i64 0, .int .i64 0, .int .u32 0] 27 := row_set xM 1 _
  have zS := row_setCell_other xS n4 1 (.int .u32 q2)
  have zA := row_setCell_other xA n5 1 (.int .u32 q2)
  have zR := row_setCell_other xR n6 1 (.int .u32 q2)
  have zB := below_setCell xB n8 1 (.int .u32 q2)
  clear xM xS xA xR xB
  go_upto_region 5 with (go_at_call 52; refine (P2.out gs ga _ rS rA).mono ?_; clear P2 rS rA; rintro ex w' ⟨rfl, rfl⟩)
  clear rM rR rB cM fM
  generalize (wk.setRow ga #[.int .i64 18]).setCell ⟨gm, 1, none⟩ (.int .u32 q2) = wk at zM zS zA zR zB ⊢
  have rM := zM
  have rS := zS
  have rA := zA
  have rR := zR
  have rB := zB
  clear zM zS zA zR zB
  have xM := rM.other (g := ga) n2 #[.int .i64 22]
  have cM := row_at xM 2 (.int .u32 0) rfl
  have fM := row_frozen xM 2
  have xS := rS.other (g := ga) n1 #[.int .i64 22]
  have xA := rA.set #[.int .i64 22]
  have xR := rR.other (g := ga) n3 #[.int .i64 22]
  have xB := below_setRow rB n7 #[.int .i64 22]
  have zM : Row ((wk.setRow ga #[.int .i64 22]).setCell ⟨gm, 2, none⟩ (.int .u32 q3)) gm #[.int .u64 q1, .int .u32 q2, .int .u32 q3, .int .u64 0, .int .u32 0, .int .i64 0, .int .i64 0, .int .i64 0, .int .u32 0] 27 := row_set xM 2 _
  have zS := row_setCell_other xS n4 2 (.int .u32 q3)
  have zA := row_setCell_other xA n5 2 (.int .u32 q3)
  have zR := row_setCell_other xR n6 2 (.int .u32 q3)
  have zB := below_setCell xB n8 2 (.int .u32 q3)
  clear xM xS xA xR xB
  go_upto_region 6 with (go_at_call 52; refine (P3.out gs ga _ rS rA).mono ?_; clear P3 rS rA; rintro ex w' ⟨rfl, rfl⟩)
  clear rM rR rB cM fM
  generalize (wk.setRow ga #[.int .i64 22]).setCell ⟨gm, 2, none⟩ (.int .u32 q3) = wk at zM zS zA zR zB ⊢
  have rM := zM
  have rS := zS
  have rA := zA
  have rR := zR
  have rB := zB
  clear zM zS zA zR zB
  have xM := rM.other (g := ga) n2 #[.int .i64 30]
  have cM := row_at xM 3 (.int .u64 0) rfl
  have fM := row_frozen xM 3
  have xS := rS.other (g := ga) n1 #[.int .i64 30]
  have xA := rA.set #[.int .i64 30]
  have xR := rR.other (g := ga) n3 #[.int .i64 30]
  have xB := below_setRow rB n7 #[.int .i64 30]
  have zM : Row ((wk.setRow ga #[.int .i64 30]).setCell ⟨gm, 3, none⟩ (.int .u64 q4)) gm #[.int .u64 q1, .int .u32 q2, .int .u32 q3, .int .u64 q4, .int .u32 0, .int .i64 0, .int .i64 0, .int .i64 0, .int .u32 0] 27 := row_set xM 3 _
  have zS := row_setCell_other xS n4 3 (.int .u64 q4)
  have zA := row_setCell_other xA n5 3 (.int .u64 q4)
  have zR := row_setCell_other xR n6 3 (.int .u64 q4)
  have zB := below_setCell xB n8 3 (.int .u64 q4)
  clear xM xS xA xR xB
  go_upto_region 7 with (go_at_call 52; refine (P4.out gs ga _ rS rA).mono ?_; clear P4 rS rA; rintro ex w' ⟨rfl, rfl⟩)
  clear rM rR rB cM fM
  generalize (wk.setRow ga #[.int .i64 30]).setCell ⟨gm, 3, none⟩ (.int .u64 q4) = wk at zM zS zA zR zB ⊢
  have rM := zM
  have rS := zS
  have rA := zA
  have rR := zR
  have rB := zB
  clear zM zS zA zR zB
  have xM := rM.other (g := ga) n2 #[.int .i64 34]
  have cM := row_at xM 4 (.int .u32 0) rfl
  have fM := row_frozen xM 4
  have xS := rS.other (g := ga) n1 #[.int .i64 34]
  have xA := rA.set #[.int .i64 34]
  have xR := rR.other (g := ga) n3 #[.int .i64 34]
  have xB := below_setRow rB n7 #[.int .i64 34]
  have zM : Row ((wk.setRow ga #[.int .i64 34]).setCell ⟨gm, 4, none⟩ (.int .u32 q5)) gm #[.int .u64 q1, .int .u32 q2, .int .u32 q3, .int .u64 q4, .int .u32 q5, .int .i64 0, .int .i64 0, .int .i64 0, .int .u32 0] 27 := row_set xM 4 _
  have zS := row_setCell_other xS n4 4 (.int .u32 q5)
  have zA := row_setCell_other xA n5 4 (.int .u32 q5)
  have zR := row_setCell_other xR n6 4 (.int .u32 q5)
  have zB := below_setCell xB n8 4 (.int .u32 q5)
  clear xM xS xA xR xB
  go_upto_region 8 with (go_at_call 52; refine (P5.out gs ga _ rS rA).mono ?_; clear P5 rS rA; rintro ex w' ⟨rfl, rfl⟩)
  clear rM rR rB cM fM
  generalize (wk.setRow ga #[.int .i64 34]).setCell ⟨gm, 4, none⟩ (.int .u32 q5) = wk at zM zS zA zR zB ⊢
  have rM := zM
  have rS := zS
  have rA := zA
  have rR := zR
  have rB := zB
  clear zM zS zA zR zB
  have xM := rM.other (g := ga) n2 #[.int .i64 36]
  have cM := row_at xM 5 (.int .i64 0) rfl
  have fM := row_frozen xM 5
  have xS := rS.other (g := ga) n1 #[.int .i64 36]
  have xA := rA.set #[.int .i64 36]
  have xR := rR.other (g := ga) n3 #[.int .i64 36]
  have xB := below_setRow rB n7 #[.int .i64 36]
  have zM : Row ((wk.setRow ga #[.int .i64 36]).setCell ⟨gm, 5, none⟩ (.int .i64 q6)) gm #[.int .u64 q1, .int .u32 q2, .int .u32 q3, .int .u64 q4, .int .u32 q5, .int .i64 q6, .int .i64 0, .int .i64 0, .int .u32 0] 27 := row_set xM 5 _
  have zS := row_setCell_other xS n4 5 (.int .i64 q6)
  have zA := row_setCell_other xA n5 5 (.int .i64 q6)
  have zR := row_setCell_other xR n6 5 (.int .i64 q6)
  have zB := below_setCell xB n8 5 (.int .i64 q6)
  clear xM xS xA xR xB
  go_upto_region 9 with (go_at_call 52; refine (P6.out gs ga _ rS rA).mono ?_; clear P6 rS rA; rintro ex w' ⟨rfl, rfl⟩)
  clear rM rR rB cM fM
  generalize (wk.setRow ga #[.int .i64 36]).setCell ⟨gm, 5, none⟩ (.int .i64 q6) = wk at zM zS zA zR zB ⊢
  have rM := zM
  have rS := zS
  have rA := zA
  have rR := zR
  have rB := zB
  clear zM zS zA zR zB
  have xM := rM.other (g := ga) n2 #[.int .i64 38]
  have cM := row_at xM 6 (.int .i64 0) rfl
  have fM := row_frozen xM 6
  have xS := rS.other (g := ga) n1 #[.int .i64 38]
  have xA := rA.set #[.int .i64 38]
  have xR := rR.other (g := ga) n3 #[.int .i64 38]
  have xB := below_setRow rB n7 #[.int .i64 38]
  have zM : Row ((wk.setRow ga #[.int .i64 38]).setCell ⟨gm, 6, none⟩ (.int .i64 q7)) gm #[.int .u64 q1, .int .u32 q2, .int .u32 q3, .int .u64 q4, .int .u32 q5, .int .i64 q6, .int .i64 q7, .int .i64 0, .int .u32 0] 27 := row_set xM 6 _
  have zS := row_setCell_other xS n4 6 (.int .i64 q7)
  have zA := row_setCell_other xA n5 6 (.int .i64 q7)
  have zR := row_setCell_other xR n6 6 (.int .i64 q7)
  have zB := below_setCell xB n8 6 (.int .i64 q7)
  clear xM xS xA xR xB
  go_upto_region 10 with (go_at_call 52; refine (P7.out gs ga _ rS rA).mono ?_; clear P7 rS rA; rintro ex w' ⟨rfl, rfl⟩)
  clear rM rR rB cM fM
  generalize (wk.setRow ga #[.int .i64 38]).setCell ⟨gm, 6, none⟩ (.int .i64 q7) = wk at zM zS zA zR zB ⊢
  have rM := zM
  have rS := zS
  have rA := zA
  have rR := zR
  have rB := zB
  clear zM zS zA zR zB
  have xM := rM.other (g := ga) n2 #[.int .i64 40]
  have cM := row_at xM 7 (.int .i64 0) rfl
  have fM := row_frozen xM 7
  have xS := rS.other (g := ga) n1 #[.int .i64 40]
  have xA := rA.set #[.int .i64 40]
  have xR := rR.other (g := ga) n3 #[.int .i64 40]
  have xB := below_setRow rB n7 #[.int .i64 40]
  have zM : Row ((wk.setRow ga #[.int .i64 40]).setCell ⟨gm, 7, none⟩ (.int .i64 q8)) gm #[.int .u64 q1, .int .u32 q2, .int .u32 q3, .int .u64 q4, .int .u32 q5, .int .i64 q6, .int .i64 q7, .int .i64 q8, .int .u32 0] 27 := row_set xM 7 _
  have zS := row_setCell_other xS n4 7 (.int .i64 q8)
  have zA := row_setCell_other xA n5 7 (.int .i64 q8)
  have zR := row_setCell_other xR n6 7 (.int .i64 q8)
  have zB := below_setCell xB n8 7 (.int .i64 q8)
  clear xM xS xA xR xB
  go_upto_region 11 with (go_at_call 52; refine (P8.out gs ga _ rS rA).mono ?_; clear P8 rS rA; rintro ex w' ⟨rfl, rfl⟩)
  clear rM rR rB cM fM
  generalize (wk.setRow ga #[.int .i64 40]).setCell ⟨gm, 7, none⟩ (.int .i64 q8) = wk at zM zS zA zR zB ⊢
  have rM := zM
  have rS := zS
  have rA := zA
  have rR := zR
  have rB := zB
  clear zM zS zA zR zB
  have xM := rM.other (g := ga) n2 #[.int .i64 44]
  have cM := row_at xM 8 (.int .u32 0) rfl
  have fM := row_frozen xM 8
  have xS := rS.other (g := ga) n1 #[.int .i64 44]
  have xA := rA.set #[.int .i64 44]
  have xR := rR.other (g := ga) n3 #[.int .i64 44]
  have xB := below_setRow rB n7 #[.int .i64 44]
  have zM : Row ((wk.setRow ga #[.int .i64 44]).setCell ⟨gm, 8, none⟩ (.int .u32 q9)) gm #[.int .u64 q1, .int .u32 q2, .int .u32 q3, .int .u64 q4, .int .u32 q5, .int .i64 q6, .int .i64 q7, .int .i64 q8, .int .u32 q9] 27 := row_set xM 8 _
  have zS := row_setCell_other xS n4 8 (.int .u32 q9)
  have zA := row_setCell_other xA n5 8 (.int .u32 q9)
  have zR := row_setCell_other xR n6 8 (.int .u32 q9)
  have zB := below_setCell xB n8 8 (.int .u32 q9)
  clear xM xS xA xR xB
  go_upto_region 12 with (go_at_call 52; refine (P9.out gs ga _ rS rA).mono ?_; clear P9 rS rA; rintro ex w' ⟨rfl, rfl⟩)
  clear rM rR rB cM fM
  generalize (wk.setRow ga #[.int .i64 44]).setCell ⟨gm, 8, none⟩ (.int .u32 q9) = wk at zM zS zA zR zB ⊢
  have rM := zM
  have rS := zS
  have rA := zA
  have rR := zR
  have rB := zB
  clear zM zS zA zR zB
  go_wp2_with (first
    | (refine load_cells rfl 27 (.tmp 4) rfl gm rfl 27 #[.int .u64 q1, .int .u32 q2, .int .u32 q3, .int .u64 q4, .int .u32 q5, .int .i64 q6, .int .i64 q7, .int .i64 q8, .int .u32 q9] rM 9 Try.underlying27 rfl size27 rfl ?_)
    | (refine store_cells rfl 27 (.tmp 2) (.tmp 45) rfl w.heap.size #[.int .u64 q1, .int .u32 q2, .int .u32 q3, .int .u64 q4, .int .u32 q5, .int .i64 q6, .int .i64 q7, .int .i64 q8, .int .u32 q9] rfl rfl 27 _ rR 9 size27 rfl rfl (by simp [Value.oneCell']) ?_))
  refine bodyPost_ret (v := .agg #[.int .u64 q1, .int .u32 q2, .int .u32 q3, .int .u64 q4, .int .u32 q5, .int .i64 q6, .int .i64 q7, .int .i64 q8, .int .u32 q9]) ?_ rfl ⟨rfl, below_setRow rB (Nat.le_refl _) _⟩
  exact ret_cell (fn := Try.f29) rfl _ _ w.heap.size 27 #[.int .u64 q1, .int .u32 q2, .int .u32 q3, .int .u64 q4, .int .u32 q5, .int .i64 q6, .int .i64 q7, .int .i64 q8, .int .u32 q9] _ rfl (rR.set _) Try.underlying27 rfl size27
end Go.Proofs.Ytcbjjofckhohjaa
