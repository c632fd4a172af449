/-
  Proved here: what the calls of a disk that is not there answer.
-/
import Derived.Test.YtcbjjofckhohjaaAwake
namespace Go.Proofs.Ytcbjjofckhohjaa
open Go.ChangeShapes Go.WideShapes Go.ChangeAt Go.RowKit
set_option linter.unusedVariables false
set_option linter.unusedSimpArgs false
set_option maxRecDepth 20000

theorem size_nil (w : World) : Calls Try.prog 54 #[.pointer none] w fun e w' => e = .returned (.int .i64 0) ∧ w' = w := by
  go_enter Try.func54, Try.ntmps54
  go_wp2
  go_ret
  exact ⟨rfl, rfl⟩
theorem down_nil (w : World) : Calls Try.prog 45 #[.pointer none] w fun e w' => e = .returned (.bool true) ∧ w' = w := by
  go_enter Try.func45, Try.ntmps45
  go_wp2
  go_ret
  exact ⟨rfl, rfl⟩
theorem has_nil (b : Int) (w : World) : Calls Try.prog 46 #[.pointer none, .int .i64 b] w fun e w' => e = .returned (.bool false) ∧ w' = w := by
  by_cases h : 0 ≤ b
  · have h' : ¬ b < 0 := by omega
    go_enter Try.func46, Try.ntmps46
    go_wp2_with (go_at_call 54; refine (size_nil _).mono ?_; rintro e w' ⟨rfl, rfl⟩)
    go_ret
    exact ⟨by simp [h], rfl⟩
  · go_enter Try.func46, Try.ntmps46
    go_wp2
    go_ret
    exact ⟨rfl, rfl⟩
theorem ask_nil (b : Int) (w : World) : Calls Try.prog 33 #[.pointer none, .int .i64 b] w fun e w' => e = .returned (.int .i64 4) ∧ w' = w := by
  go_enter Try.func33, Try.ntmps33
  go_wp2_with (go_at_call 45; refine (down_nil _).mono ?_; rintro e w' ⟨rfl, rfl⟩)
  go_ret
  exact ⟨rfl, rfl⟩
theorem off_none {w w' : World} (h : Off (fun _ => False) w w') : Below w.heap.size w w' := h.below (Nat.le_refl _) (fun _ q => q.elim)
theorem read_nil (b : Int) (w : World) : Calls Try.prog 35 #[.pointer none, .int .i64 b] w fun e w' => e = .returned (.tuple #[.agg (bs (zs 256)), .int .i64 4]) ∧ Below w.heap.size w w' := by
  refine (read_err (.pointer none) b 4 (by decide) w (fun _ => False) (fun _ q => q.elim) (fun _ => True) (fun _ _ _ _ => trivial) (fun _ _ _ _ _ => trivial) fun wa _ => ?_).mono ?_
  · refine (ask_nil b wa).mono ?_
    rintro e w' ⟨rfl, rfl⟩
    exact ⟨rfl, Off.refl _ _, trivial⟩
  · rintro e w' ⟨rfl, h, _⟩
    exact ⟨rfl, off_none h⟩
theorem write_nil (b : Int) (x : List Int) (w : World) : Calls Try.prog 17 #[.pointer none, .int .i64 b, .agg (bs x)] w fun e w' => e = .returned (.int .i64 4) ∧ Below w.heap.size w w' := by
  refine (write_err (.pointer none) b 4 (by decide) x w (fun _ => False) (fun _ => True) fun wa _ => ?_).mono ?_
  · refine (ask_nil b wa).mono ?_
    rintro e w' ⟨rfl, rfl⟩
    exact ⟨rfl, Off.refl _ _, trivial⟩
  · rintro e w' ⟨rfl, h, _⟩
    exact ⟨rfl, off_none h⟩
theorem sync_nil (w : World) : Calls Try.prog 36 #[.pointer none] w fun e w' => e = .returned (.int .i64 4) ∧ w' = w := by
  go_enter Try.func36, Try.ntmps36
  go_wp2_with (go_at_call 45; refine (down_nil _).mono ?_; rintro e w' ⟨rfl, rfl⟩)
  go_ret
  exact ⟨rfl, rfl⟩
theorem plan_nil (v : Value) (f : Int) (w : World) : Calls Try.prog 18 #[.pointer none, v, .int .i64 f] w fun e w' => e = .returned (.tuple #[]) ∧ w' = w := by
  go_enter Try.func18, Try.ntmps18
  go_wp2
  first
    | (go_end0; exact ⟨rfl, rfl⟩)
    | (refine bodyPost_ret (results_none rfl _ _ _) rfl ?_; exact ⟨rfl, rfl⟩)
theorem crash_nil (v : Value) (w : World) : Calls Try.prog 22 #[.pointer none, v] w fun e w' => e = .returned (.tuple #[]) ∧ w' = w := by
  go_enter Try.func22, Try.ntmps22
  go_wp2
  first
    | (go_end0; exact ⟨rfl, rfl⟩)
    | (refine bodyPost_ret (results_none rfl _ _ _) rfl ?_; exact ⟨rfl, rfl⟩)
theorem seen_nil (b : Int) (w : World) : Calls Try.prog 49 #[.pointer none, .int .i64 b] w fun e w' => e = .returned (.agg (bs (zs 256))) ∧ Below w.heap.size w w' := seen_out _ b w fun wa _ => has_nil b wa
theorem sure_nil (b : Int) (w : World) : Calls Try.prog 55 #[.pointer none, .int .i64 b] w fun e w' => e = .returned (.agg (bs (zs 256))) ∧ Below w.heap.size w w' := sure_out _ b w fun wa _ => has_nil b wa
end Go.Proofs.Ytcbjjofckhohjaa
