/-
  A master as the document tells it; proved here: master.May, master.Size, and the statements' plain master.
-/
import Derived.Test.YtcbjjofckhohjaaSTorn
import Derived.Laws.AppendOwnNone
import Derived.Maps.AppendAt
import Derived.Deep.MidRow
import Derived.Deep.CutBlock
import Derived.Deep.CutRange
import Derived.Great.BuildSlice
namespace Go.Proofs.Ytcbjjofckhohjaa
open Go.ChangeShapes Go.WideShapes Go.ChangeAt Go.RowKit
set_option linter.unusedVariables false
set_option linter.unusedSimpArgs false
set_option maxRecDepth 20000

/-- A master. -/
structure M where
  seq : Int
  ep : Int
  tail : Int
  lsn : Int
  last : Int
  pg : Int
  un : Int
  lg : Int
  mx : Int
abbrev mcells (m : M) : Array Value := #[.int .u64 m.seq, .int .u32 m.ep, .int .u32 m.tail, .int .u64 m.lsn, .int .u32 m.last, .int .i64 m.pg, .int .i64 m.un, .int .i64 m.lg, .int .u32 m.mx]
abbrev ccells (m : M) : Array Value := #[.int .i64 m.pg, .int .i64 m.un, .int .i64 m.lg, .int .u32 m.mx]
/-- Its numbers are as wide as their types. -/
structure M.Fit (m : M) : Prop where
  seq : 0 ≤ m.seq ∧ m.seq ≤ 18446744073709551615
  ep : 0 ≤ m.ep ∧ m.ep ≤ 4294967295
  tail : 0 ≤ m.tail ∧ m.tail ≤ 4294967295
  lsn : 0 ≤ m.lsn ∧ m.lsn ≤ 18446744073709551615
  last : 0 ≤ m.last ∧ m.last ≤ 4294967295
  pg : -9223372036854775808 ≤ m.pg ∧ m.pg ≤ 9223372036854775807
  un : -9223372036854775808 ≤ m.un ∧ m.un ≤ 9223372036854775807
  lg : -9223372036854775808 ≤ m.lg ∧ m.lg ≤ 9223372036854775807
  mx : 0 ≤ m.mx ∧ m.mx ≤ 4294967295
def zm : M := ⟨0, 0, 0, 0, 0, 0, 0, 0, 0⟩
/-- Whether there may be it. -/
def mayM (m : M) : Bool := decide (1 ≤ m.pg ∧ m.pg ≤ 16) && decide (1 ≤ m.un ∧ m.un ≤ 32) && decide (64 ≤ m.lg ∧ m.lg ≤ 512) && decide (m.last ≤ m.mx)
theorem mayM_of {m : M} (h : mayM m = true) : (1 ≤ m.pg ∧ m.pg ≤ 16) ∧ (1 ≤ m.un ∧ m.un ≤ 32) ∧ (64 ≤ m.lg ∧ m.lg ≤ 512) ∧ m.last ≤ m.mx := by
  unfold mayM at h
  simpa [and_assoc] using h
theorem zero27 (w : World) : (zeroValue 27).run Try.prog w = .ok (.agg (mcells zm)) w := (zero_of_info (P := Try.prog) (t := 27) (v := .agg (mcells zm)) (n := 9) (by kernel_rfl)).1 w
theorem zero25 (w : World) : (zeroValue 25).run Try.prog w = .ok (.agg (ccells zm)) w := (zero_of_info (P := Try.prog) (t := 25) (v := .agg (ccells zm)) (n := 4) (by kernel_rfl)).1 w
theorem size27 : (Try.prog.info? 27).map (·.size) = some 9 := by kernel_rfl
theorem size25 : (Try.prog.info? 25).map (·.size) = some 4 := by kernel_rfl

theorem inn_at (n l h : Int) (b : Bool) (hb : decide (l ≤ n ∧ n ≤ h) = b) (w : World) :
    Calls Try.prog 32 #[.int .i64 n, .int .i64 l, .int .i64 h] w fun e w' => e = .returned (.bool b) ∧ w' = w := by
  subst hb
  by_cases h1 : l ≤ n
  · by_cases h2 : n ≤ h
    · go_enter Try.func32, Try.ntmps32
      go_wp2
      go_ret
      exact ⟨by simp [h1, h2], rfl⟩
    · go_enter Try.func32, Try.ntmps32
      go_wp2
      go_ret
      exact ⟨by simp [h1, h2], rfl⟩
  · go_enter Try.func32, Try.ntmps32
    go_wp2
    go_ret
    exact ⟨by simp [h1]; omega, rfl⟩

set_option maxHeartbeats 2000000 in
theorem mmay_any (m : M) (w : World) : Calls Try.prog 13 #[.agg (mcells m)] w fun e w' => e = .returned (.bool (mayM m)) ∧ Below w.heap.size w w' := by
  obtain ⟨sq, ep, tl, ls, la, pg, un, lg, mx⟩ := m
  obtain ⟨b1, h1⟩ : ∃ b, decide (1 ≤ pg ∧ pg ≤ 16) = b := ⟨_, rfl⟩
  obtain ⟨b2, h2⟩ : ∃ b, decide (1 ≤ un ∧ un ≤ 32) = b := ⟨_, rfl⟩
  obtain ⟨b3, h3⟩ : ∃ b, decide (64 ≤ lg ∧ lg ≤ 512) = b := ⟨_, rfl⟩
  obtain ⟨b4, h4⟩ : ∃ b, decide (la ≤ mx) = b := ⟨_, rfl⟩
  have e : mayM ⟨sq, ep, tl, ls, la, pg, un, lg, mx⟩ = (b1 && b2 && b3 && b4) := by rw [← h1, ← h2, ← h3, ← h4]; rfl
  rw [e]
  clear e
  have P1 : Hid _ := fun w => inn_at pg 1 16 b1 h1 w
  have P2 : Hid _ := fun w => inn_at un 1 32 b2 h2 w
  have P3 : Hid _ := fun w => inn_at lg 64 512 b3 h3 w
  clear h1 h2 h3
  have hz := zero25
  have y0 : Row (w.alloc (.cells #[.int .u64 sq, .int .u32 ep, .int .u32 tl, .int .u64 ls, .int .u32 la, .int .i64 pg, .int .i64 un, .int .i64 lg, .int .u32 mx] 27)) w.heap.size #[.int .u64 sq, .int .u32 ep, .int .u32 tl, .int .u64 ls, .int .u32 la, .int .i64 pg, .int .i64 un, .int .i64 lg, .int .u32 mx] 27 := Row.new _ _ _
  have yb : Below w.heap.size w (w.alloc (.cells #[.int .u64 sq, .int .u32 ep, .int .u32 tl, .int .u64 ls, .int .u32 la, .int .i64 pg, .int .i64 un, .int .i64 lg, .int .u32 mx] 27)) := (Below.refl _ _).alloc (Nat.le_refl _) _
  have hs : (w.alloc (.cells #[.int .u64 sq, .int .u32 ep, .int .u32 tl, .int .u64 ls, .int .u32 la, .int .i64 pg, .int .i64 un, .int .i64 lg, .int .u32 mx] 27)).heap.size = w.heap.size + 1 := by simp
  go_enter Try.func13, Try.ntmps13
  go_upto_region 1 with fail
  generalize w.alloc (.cells #[.int .u64 sq, .int .u32 ep, .int .u32 tl, .int .u64 ls, .int .u32 la, .int .i64 pg, .int .i64 un, .int .i64 lg, .int .u32 mx] 27) = w1 at y0 yb hs ⊢
  have c4 := row_at y0 4 (.int .u32 la) rfl
  have c5 := row_at y0 5 (.int .i64 pg) rfl
  have c6 := row_at y0 6 (.int .i64 un) rfl
  have c7 := row_at y0 7 (.int .i64 lg) rfl
  have c8 := row_at y0 8 (.int .u32 mx) rfl
  go_upto_region 2 with fail
  have x0 := y0.alloc (.cells #[.int .i64 pg, .int .i64 un, .int .i64 lg, .int .u32 mx] 25)
  have x1 : Row (w1.alloc (.cells #[.int .i64 pg, .int .i64 un, .int .i64 lg, .int .u32 mx] 25)) (w.heap.size + 1) #[.int .i64 pg, .int .i64 un, .int .i64 lg, .int .u32 mx] 25 := by rw [← hs]; exact Row.new _ _ _
  have yb := yb.alloc (by omega) (.cells #[.int .i64 pg, .int .i64 un, .int .i64 lg, .int .u32 mx] 25)
  clear c4 c5 c6 c7 c8 y0 hs hz
  generalize w1.alloc (.cells #[.int .i64 pg, .int .i64 un, .int .i64 lg, .int .u32 mx] 25) = w2 at x0 x1 yb ⊢
  have c4 := row_at x0 4 (.int .u32 la) rfl
  have d0 := row_at x1 0 (.int .i64 pg) rfl
  have d1 := row_at x1 1 (.int .i64 un) rfl
  have d2 := row_at x1 2 (.int .i64 lg) rfl
  have d3 := row_at x1 3 (.int .u32 mx) rfl
  clear x0 x1
  cases b1
  · go_wp2_with (go_at_call 32; refine (P1.out _).mono ?_; clear P1; rintro ex w' ⟨rfl, rfl⟩)
    go_ret
    exact ⟨rfl, yb⟩
  · cases b2
    · go_wp2_with (first
        | (go_at_call 32; refine (P1.out _).mono ?_; clear P1; rintro ex w' ⟨rfl, rfl⟩)
        | (go_at_call 32; refine (P2.out _).mono ?_; clear P2; rintro ex w' ⟨rfl, rfl⟩))
      go_ret
      exact ⟨rfl, yb⟩
    · cases b3
      · go_wp2_with (first
          | (go_at_call 32; refine (P1.out _).mono ?_; clear P1; rintro ex w' ⟨rfl, rfl⟩)
          | (go_at_call 32; refine (P2.out _).mono ?_; clear P2; rintro ex w' ⟨rfl, rfl⟩)
          | (go_at_call 32; refine (P3.out _).mono ?_; clear P3; rintro ex w' ⟨rfl, rfl⟩))
        go_ret
        exact ⟨rfl, yb⟩
      · go_wp2_with (first
          | (go_at_call 32; refine (P1.out _).mono ?_; clear P1; rintro ex w' ⟨rfl, rfl⟩)
          | (go_at_call 32; refine (P2.out _).mono ?_; clear P2; rintro ex w' ⟨rfl, rfl⟩)
          | (go_at_call 32; refine (P3.out _).mono ?_; clear P3; rintro ex w' ⟨rfl, rfl⟩))
        go_ret
        exact ⟨by rw [← h4]; rfl, yb⟩

set_option maxHeartbeats 2000000 in
theorem msize_any (m : M) (w : World) : Calls Try.prog 14 #[.agg (ccells m)] w fun e w' => e = .returned (.int .i64 (if mayM { zm with pg := m.pg, un := m.un, lg := m.lg, mx := m.mx } then 2 + m.pg + m.un + m.lg else 0)) ∧ Below w.heap.size w w' := by
  have P1 : Hid _ := fun w => mmay_any { zm with pg := m.pg, un := m.un, lg := m.lg, mx := m.mx } w
  have hm := @mayM_of { zm with pg := m.pg, un := m.un, lg := m.lg, mx := m.mx }
  obtain ⟨sq, ep, tl, ls, la, pg, un, lg, mx⟩ := m
  dsimp only at P1 hm ⊢
  obtain ⟨b, hb⟩ : ∃ b, mayM { zm with pg := pg, un := un, lg := lg, mx := mx } = b := ⟨_, rfl⟩
  rw [hb] at P1 hm ⊢
  clear hb
  have y0 : Row (w.alloc (.cells #[.int .i64 pg, .int .i64 un, .int .i64 lg, .int .u32 mx] 25)) w.heap.size #[.int .i64 pg, .int .i64 un, .int .i64 lg, .int .u32 mx] 25 := Row.new _ _ _
  have yb : Below w.heap.size w (w.alloc (.cells #[.int .i64 pg, .int .i64 un, .int .i64 lg, .int .u32 mx] 25)) := (Below.refl _ _).alloc (Nat.le_refl _) _
  go_enter Try.func14, Try.ntmps14
  go_upto_region 1 with fail
  generalize w.alloc (.cells #[.int .i64 pg, .int .i64 un, .int .i64 lg, .int .u32 mx] 25) = w1 at y0 yb ⊢
  have d0 := row_at y0 0 (.int .i64 pg) rfl
  have d1 := row_at y0 1 (.int .i64 un) rfl
  have d2 := row_at y0 2 (.int .i64 lg) rfl
  have d3 := row_at y0 3 (.int .u32 mx) rfl
  cases b
  · go_wp2_with (go_at_call 13; refine (P1.out _).mono ?_; clear P1; rintro ex w' ⟨rfl, h'⟩)
    go_ret
    exact ⟨by simp, yb.trans (h'.mono yb.size)⟩
  · have hm := hm rfl
    obtain ⟨m1, m2, m3, m4⟩ := hm
    have e1 : IntKind.i64.wrap (2 + pg) = 2 + pg := by rw [IntKind.wrap_i64]; omega
    have e2 : IntKind.i64.wrap (2 + pg + un) = 2 + pg + un := by rw [IntKind.wrap_i64]; omega
    have e3 : IntKind.i64.wrap (2 + pg + un + lg) = 2 + pg + un + lg := by rw [IntKind.wrap_i64]; omega
    go_wp2_with (go_at_call 13; refine (P1.out _).mono ?_; clear P1; rintro ex w' ⟨rfl, h'⟩; have y1 := y0.below h' y0.lt; clear d0 d1 d2 d3 y0; have d0 := row_at y1 0 (.int .i64 pg) rfl; have d1 := row_at y1 1 (.int .i64 un) rfl; have d2 := row_at y1 2 (.int .i64 lg) rfl)
    go_ret
    exact ⟨by simp, yb.trans (h'.mono yb.size)⟩

/-- The statements' plain master. -/
def plainM (q : Int) : M := ⟨q, 3, 0, 9, 0, 2, 3, 64, 100⟩
set_option maxHeartbeats 2000000 in
theorem plain_any (q : Int) (w : World) : Calls Try.prog 20 #[.int .u64 q] w fun e w' => e = .returned (.agg (mcells (plainM q))) ∧ Below w.heap.size w w' := by
  have hz := zero27
  have yb : Below w.heap.size w (w.alloc (.cells (mcells (plainM q)) 27)) := (Below.refl _ _).alloc (Nat.le_refl _) _
  go_enter Try.func20, Try.ntmps20
  go_wp2
  refine bodyPost_ret (v := .agg (mcells (plainM q))) ?_ rfl ⟨rfl, yb⟩
  exact ret_cell (fn := Try.f20) rfl _ _ w.heap.size 27 (mcells (plainM q)) _ rfl (Row.new _ _ _) Try.underlying27 rfl size27
end Go.Proofs.Ytcbjjofckhohjaa
