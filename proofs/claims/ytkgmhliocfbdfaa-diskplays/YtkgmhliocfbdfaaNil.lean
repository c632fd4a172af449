/-
  Proved here: what the calls of a disk that is not there answer.
-/
import Derived.Test.YtkgmhliocfbdfaaAwake
namespace Go.Proofs.Ytkgmhliocfbdfaa
open Go.ChangeShapes Go.WideShapes Go.ChangeAt Go.RowKit
set_option linter.unusedVariables false
set_option linter.unusedSimpArgs false

theorem size_nil (w : World) : Calls Try.prog 21 #[.pointer none] w fun e w' => e = .returned (.int .i64 0) ∧ w' = w := by
  go_enter Try.func21, Try.ntmps21
  go_wp2
  go_ret
  exact ⟨rfl, rfl⟩
theorem ops_nil (w : World) : Calls Try.prog 19 #[.pointer none] w fun e w' => e = .returned (.int .i64 0) ∧ w' = w := by
  go_enter Try.func19, Try.ntmps19
  go_wp2
  go_ret
  exact ⟨rfl, rfl⟩
theorem pending_nil (w : World) : Calls Try.prog 20 #[.pointer none] w fun e w' => e = .returned (.int .i64 0) ∧ w' = w := by
  go_enter Try.func20, Try.ntmps20
  go_wp2
  go_ret
  exact ⟨rfl, rfl⟩
theorem down_nil (w : World) : Calls Try.prog 18 #[.pointer none] w fun e w' => e = .returned (.bool true) ∧ w' = w := by
  go_enter Try.func18, Try.ntmps18
  go_wp2
  go_ret
  exact ⟨rfl, rfl⟩
theorem has_nil (b : Int) (w : World) : Calls Try.prog 34 #[.pointer none, .int .i64 b] w fun e w' => e = .returned (.bool false) ∧ w' = w := by
  by_cases h : 0 ≤ b
  · have h' : ¬ b < 0 := by omega
    go_enter Try.func34, Try.ntmps34
    go_wp2_with (go_at_call 21; refine (size_nil _).mono ?_; rintro e w' ⟨rfl, rfl⟩)
    go_ret
    exact ⟨by simp [h], rfl⟩
  · go_enter Try.func34, Try.ntmps34
    go_wp2
    go_ret
    exact ⟨rfl, rfl⟩
theorem ask_nil (b : Int) (w : World) : Calls Try.prog 37 #[.pointer none, .int .i64 b] w fun e w' => e = .returned (.int .i64 4) ∧ w' = w := by
  go_enter Try.func37, Try.ntmps37
  go_wp2_with (go_at_call 18; refine (down_nil _).mono ?_; rintro e w' ⟨rfl, rfl⟩)
  go_ret
  exact ⟨rfl, rfl⟩
theorem off_none {w w' : World} (h : Off (fun _ => False) w w') : Below w.heap.size w w' := h.below (Nat.le_refl _) (fun _ q => q.elim)
theorem read_nil (b : Int) (w : World) : Calls Try.prog 30 #[.pointer none, .int .i64 b] w fun e w' => e = .returned (.tuple #[.agg (bs (zs 256)), .int .i64 4]) ∧ Below w.heap.size w w' := by
  refine (read_err (.pointer none) b 4 (by decide) w (fun _ => False) (fun _ q => q.elim) (fun _ => True) (fun _ _ _ _ => trivial) (fun _ _ _ _ _ => trivial) fun wa _ => ?_).mono ?_
  · refine (ask_nil b wa).mono ?_
    rintro e w' ⟨rfl, rfl⟩
    exact ⟨rfl, Off.refl _ _, trivial⟩
  · rintro e w' ⟨rfl, h, _⟩
    exact ⟨rfl, off_none h⟩
theorem write_nil (b : Int) (x : List Int) (w : World) : Calls Try.prog 26 #[.pointer none, .int .i64 b, .agg (bs x)] w fun e w' => e = .returned (.int .i64 4) ∧ Below w.heap.size w w' := by
  refine (write_err (.pointer none) b 4 (by decide) x w (fun _ => False) (fun _ => True) fun wa _ => ?_).mono ?_
  · refine (ask_nil b wa).mono ?_
    rintro e w' ⟨rfl, rfl⟩
    exact ⟨rfl, Off.refl _ _, trivial⟩
  · rintro e w' ⟨rfl, h, _⟩
    exact ⟨rfl, off_none h⟩
theorem sync_nil (w : World) : Calls Try.prog 27 #[.pointer none] w fun e w' => e = .returned (.int .i64 4) ∧ w' = w := by
  go_enter Try.func27, Try.ntmps27
  go_wp2_with (go_at_call 18; refine (down_nil _).mono ?_; rintro e w' ⟨rfl, rfl⟩)
  go_ret
  exact ⟨rfl, rfl⟩
theorem plan_nil (v : Value) (f : Int) (w : World) : Calls Try.prog 31 #[.pointer none, v, .int .i64 f] w fun e w' => e = .returned (.tuple #[]) ∧ w' = w := by
  go_enter Try.func31, Try.ntmps31
  go_wp2
  first
    | (go_end0; exact ⟨rfl, rfl⟩)
    | (refine bodyPost_ret (results_none rfl _ _ _) rfl ?_; exact ⟨rfl, rfl⟩)
theorem crash_nil (v : Value) (w : World) : Calls Try.prog 28 #[.pointer none, v] w fun e w' => e = .returned (.tuple #[]) ∧ w' = w := by
  go_enter Try.func28, Try.ntmps28
  go_wp2
  first
    | (go_end0; exact ⟨rfl, rfl⟩)
    | (refine bodyPost_ret (results_none rfl _ _ _) rfl ?_; exact ⟨rfl, rfl⟩)
theorem seen_nil (b : Int) (w : World) : Calls Try.prog 22 #[.pointer none, .int .i64 b] w fun e w' => e = .returned (.agg (bs (zs 256))) ∧ Below w.heap.size w w' := seen_out _ b w fun wa _ => has_nil b wa
theorem sure_nil (b : Int) (w : World) : Calls Try.prog 24 #[.pointer none, .int .i64 b] w fun e w' => e = .returned (.agg (bs (zs 256))) ∧ Below w.heap.size w w' := sure_out _ b w fun wa _ => has_nil b wa
end Go.Proofs.Ytkgmhliocfbdfaa
