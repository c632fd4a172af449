/-
  Proved here: sums go on over texts, are joined, and the fixed run at the head of varvelaw02 (awake) answers true.
-/
import Derived.Test.YtahiahkjglenoacJoin
namespace Go.Proofs.Ytahiahkjglenoac
open Go.ChangeShapes Go.WideShapes Go.ChangeAt Go.RowKit
set_option linter.unusedVariables false
set_option linter.unusedSimpArgs false

theorem bAt_left (a b : ByteArray) (i : Nat) (h : i < a.size) : bAt (a ++ b) i = bAt a i := by
  unfold bAt
  rw [dif_pos h, dif_pos (by rw [ByteArray.size_append]; omega), ByteArray.getElem_append_left h]
theorem bAt_right (a b : ByteArray) (i : Nat) (h : i < b.size) : bAt (a ++ b) (a.size + i) = bAt b i := by
  unfold bAt
  rw [dif_pos h, dif_pos (by rw [ByteArray.size_append]; omega), ByteArray.getElem_append_right (by omega)]
  simp only [Nat.add_sub_cancel_left]
theorem more_append (r : BitVec 32) (a b : ByteArray) : more (more r a) b = more r (a ++ b) := by
  unfold more
  rw [BitVec.not_not, ByteArray.size_append, run_add]
  rw [run_same (bAt (a ++ b)) (bAt a) a.size (~~~ r) (fun i hi => bAt_left a b i hi)]
  rw [run_same (fun i => bAt (a ++ b) (a.size + i)) (bAt b) b.size _ (fun i hi => bAt_right a b i hi)]
theorem more_nil (r : BitVec 32) : more r ⟨#[]⟩ = r := by
  show ~~~ (~~~ r) = r
  rw [BitVec.not_not]
theorem join_sums (a b : ByteArray) : join (more 0#32 a) (more 0#32 b) (b.size : Int) = more 0#32 (a ++ b) := by
  rw [← more_append]
  unfold join more
  rw [BitVec.not_not, Int.toNat_natCast]
  generalize run (bAt a) a.size (~~~ 0#32) = ra
  rw [run_affine (bAt b) b.size (~~~ 0#32), run_affine (bAt b) b.size ra]
  have h1 : ~~~ ra = ra ^^^ ~~~ 0#32 := by rw [← BitVec.allOnes_xor (x := ra), BitVec.xor_comm]; rfl
  rw [h1, steps_xor]
  generalize steps (8 * b.size) ra = x
  generalize steps (8 * b.size) (~~~ 0#32) = y
  generalize run (bAt b) b.size 0#32 = z
  rw [← BitVec.allOnes_xor (x := y ^^^ z), ← BitVec.allOnes_xor (x := x ^^^ z)]
  have c : ∀ p q r s : BitVec 32, p ^^^ q ^^^ (r ^^^ (q ^^^ s)) = r ^^^ (p ^^^ s) := by
    intro p q r s
    have : p ^^^ q ^^^ (r ^^^ (q ^^^ s)) = (q ^^^ q) ^^^ (r ^^^ (p ^^^ s)) := by ac_rfl
    rw [this, BitVec.xor_self, BitVec.zero_xor]
  exact c x y _ z
theorem join_three (a b c : BitVec 32) (n m : Int) (hn : 0 ≤ n) (hm : 0 ≤ m) : join (join a b n) c m = join a (join b c m) (n + m) := by
  unfold join
  rw [steps_xor, ← steps_add, BitVec.xor_assoc]
  congr 2
  omega

theorem sum9 : more 0#32 ⟨#[49, 50, 51, 52, 53, 54, 55, 56, 57]⟩ = 0xcbf43926#32 := by decide +kernel
theorem u_sum9 : u (0xcbf43926#32) = 3421780262 := by decide
theorem aw_sum (w : World) : Calls Try.prog 4 #[.string ⟨#[49, 50, 51, 52, 53, 54, 55, 56, 57]⟩] w fun e w' => e = .returned (.int .u32 3421780262) ∧ w' = w := by
  have h := sum_any ⟨#[49, 50, 51, 52, 53, 54, 55, 56, 57]⟩ w (by decide)
  rw [sum9, u_sum9] at h
  exact h
theorem aw_join (w : World) : Calls Try.prog 7 #[.int .u32 1, .int .u32 2, .int .i64 0] w fun e w' => e = .returned (.int .u32 3) ∧ w' = w :=
  join_any 1#32 2#32 0 w (by decide)
theorem awake_any (w : World) : Calls Try.prog 5 #[] w fun e w' => e = .returned (.bool true) ∧ w' = w := by
  go_enter Try.func5, Try.ntmps5
  go_wp2_with (first
    | (go_at_call 4; refine (aw_sum _).mono ?_; rintro e wa ⟨rfl, rfl⟩)
    | (go_at_call 7; refine (aw_join _).mono ?_; rintro e wb ⟨rfl, rfl⟩))
  go_ret
  exact ⟨rfl, rfl⟩
end Go.Proofs.Ytahiahkjglenoac
