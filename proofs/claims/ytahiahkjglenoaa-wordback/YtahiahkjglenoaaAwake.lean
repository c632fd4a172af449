/-
  Proved here: the fixed run at the head of varvelaw01 (awake) answers true in any world, and only lays new blocks.
-/
import Derived.Test.YtahiahkjglenoaaTake
import Derived.Test.YtahiahkjglenoaaWordZigs
namespace Go.Proofs.Ytahiahkjglenoaa
open Go.ChangeShapes Go.WideShapes Go.ChangeAt Go.RowKit
set_option linter.unusedVariables false
set_option linter.unusedSimpArgs false
theorem low258 : strOfNums (low 258 2) = ⟨#[2, 1]⟩ := by decide +kernel
theorem num258 : num ⟨#[2, 1]⟩ 0 2 = 258 := by decide +kernel
theorem ng128 : ng 128 = ((1 : Nat) : Int) + 1 := by
  rw [ng_step 128 (by decide) (by decide), show (128 : Int) / 128 = 1 from rfl, ng_small 1 (by decide) (by decide)]; rfl
theorem grp128 : strOfNums (grp 128 1) = ⟨#[128, 1]⟩ := by decide +kernel
theorem zig1 : wordZigs.zig (-1) = 1 := by decide
theorem aw_get (w : World) : Calls Try.prog 13 #[.string ⟨#[2, 1]⟩, .int .i64 0, .int .i64 2] w fun e w' => e = .returned (.tuple #[.int .u64 258, .bool true]) ∧ w' = w := by
  have h := get_any ⟨#[2, 1]⟩ 0 2 w (by decide) (by decide) (by decide)
  rw [num258] at h
  exact h
theorem aw_put (w : World) : Calls Try.prog 9 #[.int .u64 258, .int .i64 2] w fun e w' => e = .returned (.string ⟨#[2, 1]⟩) ∧ Grown w w' := by
  have h := put_any 258 2 w (by decide) (by decide) (by decide)
  rw [low258] at h
  exact h
theorem aw_var (w : World) : Calls Try.prog 17 #[.int .u64 128] w fun e w' => e = .returned (.string ⟨#[128, 1]⟩) ∧ Grown w w' := by
  have h := var_any 128 1 w (by decide) (by decide) ng128
  rw [grp128] at h
  exact h
theorem aw_zig (w : World) : Calls Try.prog 20 #[.int .i64 (-1)] w fun e w' => e = .returned (.int .u64 1) ∧ w' = w := by
  have h := wordZigs.zig_any (-1) w (by decide)
  rw [zig1] at h
  exact h
theorem awake_any (w : World) : Calls Try.prog 19 #[] w fun e w' => e = .returned (.bool true) ∧ Grown w w' := by
  go_enter Try.func19, Try.ntmps19
  go_wp2_with (first
    | (go_at_call 13; refine (aw_get _).mono ?_; rintro e wa ⟨rfl, rfl⟩)
    | (go_at_call 9; refine (aw_put _).mono ?_; rintro e wb ⟨rfl, hb⟩)
    | (go_at_call 17; refine (aw_var _).mono ?_; rintro e wc ⟨rfl, hc⟩)
    | (go_at_call 20; refine (aw_zig _).mono ?_; rintro e wd ⟨rfl, rfl⟩))
  go_ret
  exact ⟨rfl, grown_trans hb hc⟩
end Go.Proofs.Ytahiahkjglenoaa
