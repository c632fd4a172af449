/-
  Proved here: crc.Join is so many steps of the first sum, and the second one turned in.
-/
import Derived.Test.YtahiahkjglenoacSum
namespace Go.Proofs.Ytahiahkjglenoac
open Go.ChangeShapes Go.WideShapes Go.ChangeAt Go.RowKit
set_option linter.unusedVariables false
set_option linter.unusedSimpArgs false

theorem bit_code (on : BitVec 32) (k : Nat) : bits BinOp.and IntKind.u32 (u on / 2 ^ k) 1 = if on.getLsbD k then 1 else 0 := by
  have lt := u_fits on
  have hp : (0 : Int) < 2 ^ k := Int.pow_pos (by decide)
  have h0 : 0 ≤ u on / 2 ^ k := Int.ediv_nonneg lt.1 (Int.le_of_lt hp)
  have h1 : u on / 2 ^ k ≤ 4294967295 := Int.le_trans (Int.ediv_le_self _ lt.1) lt.2
  rw [u32_and _ _ h0 (by omega) (by decide) (by decide)]
  show (((u on / 2 ^ k).toNat &&& 1 : Nat) : Int) = _
  rw [nat_mask1]
  have e : (u on / 2 ^ k).toNat = on.toNat / 2 ^ k := by
    unfold u
    have c : ((2 : Int) ^ k) = ((2 ^ k : Nat) : Int) := by simp
    rw [c, ← Int.natCast_ediv]
    rfl
  have b : on.getLsbD k = decide (on.toNat / 2 ^ k % 2 = 1) := by
    show on.toNat.testBit k = _
    rw [Nat.testBit_eq_decide_div_mod_eq]
  rw [e, b]
  by_cases h : on.toNat / 2 ^ k % 2 = 1
  · simp [h]
  · have : on.toNat / 2 ^ k % 2 = 0 := by omega
    simp [this]
theorem times_any (a on : BitVec 32) (w : World) : Calls Try.prog 9 #[.int .u32 (u a), .int .u32 (u on)] w fun e w' => e = .returned (.int .u32 (u (prod on a 32))) ∧ w' = w := by
  have lt := u_fits on
  go_enter Try.func9, Try.ntmps9
  go_wp2
  go_loop [0, 5, 7] (fun x p i => ∃ k : Nat, k ≤ 32 ∧ i = .int .i64 k ∧ x = .int .u32 (u (steps k a)) ∧ p = .int .u32 (u (prod on a k))) (fun _ _ i => 32 - (intOf i).toNat)
  case atStart => exact ⟨0, by omega, rfl, rfl, rfl⟩
  case round =>
    obtain ⟨k, hk, rfl, rfl, rfl⟩ := hrel
    by_cases hlt : k < 32
    · have hlt' : (k : Int) < 32 := by omega
      have tn : (31 - (k : Int)).toNat = 31 - k := by omega
      have bc := bit_code on (31 - k)
      by_cases hb : on.getLsbD (31 - k) = true
      · rw [if_pos hb] at bc
        have hx := bxor (prod on a k) (steps k a)
        have HP : Hid (u (prod on a k ^^^ steps k a) = u (prod on a (k + 1))) := by show _ = _; rw [prod, if_pos hb]
        clear hb
        go_wp2_with (go_at_call 8; refine (step_any _ _).mono ?_; rintro e w' ⟨rfl, rfl⟩)
        go_round
        case rel => exact ⟨k + 1, by omega, by go_num, rfl, by rw [HP.out]⟩
        case measure => simp [intOf]; omega
      · rw [if_neg hb] at bc
        have HP : Hid (u (prod on a k) = u (prod on a (k + 1))) := by show _ = _; rw [prod, if_neg hb, BitVec.xor_zero]
        clear hb
        go_wp2_with (go_at_call 8; refine (step_any _ _).mono ?_; rintro e w' ⟨rfl, rfl⟩)
        go_round
        case rel => exact ⟨k + 1, by omega, by go_num, rfl, by rw [HP.out]⟩
        case measure => simp [intOf]; omega
    · have e : k = 32 := by omega
      subst e
      go_wp2
      go_ret
      exact ⟨rfl, rfl⟩
theorem times_pow (a on : BitVec 32) (m : Nat) (h : on = steps m top) (w : World) : Calls Try.prog 9 #[.int .u32 (u a), .int .u32 (u on)] w fun e w' => e = .returned (.int .u32 (u (steps m a))) ∧ w' = w := by
  have t := times_any a on w
  rw [h, prod_pow] at t
  rw [h]
  exact t

/-- The sum of two texts, by their sums and how long the second one is. -/
def join (a b : BitVec 32) (n : Int) : BitVec 32 := steps (8 * n.toNat) a ^^^ b

theorem odd_code (n : Int) (h0 : 0 ≤ n) (h1 : n ≤ 9223372036854775807) : bits BinOp.and IntKind.i64 n 1 = n % 2 := by
  obtain ⟨x, rfl⟩ := Int.eq_ofNat_of_zero_le h0
  rw [show (1 : Int) = ((1 : Nat) : Int) from rfl, (bits_nat .i64 63 (by decide) (fun m a b => by rw [IntKind.wrap_i64]; omega) x 1 (by omega) (by decide)).1, nat_mask1]
  omega

theorem byteOn : steps (8 * 1) top = 8388608#32 := by decide +kernel
theorem u_byteOn : u (8388608#32) = 8388608 := by decide

theorem join_any (a b : BitVec 32) (n : Int) (w : World) (hn : n ≤ 9223372036854775807) : Calls Try.prog 7 #[.int .u32 (u a), .int .u32 (u b), .int .i64 n] w fun e w' => e = .returned (.int .u32 (u (join a b n))) ∧ w' = w := by
  go_enter Try.func7, Try.ntmps7
  go_wp2
  go_loop [0, 7, 8] (fun x o l => ∃ (c on : BitVec 32) (left : Int) (p : Nat), x = .int .u32 (u c) ∧ o = .int .u32 (u on) ∧ l = .int .i64 left ∧ left ≤ 9223372036854775807 ∧ Hid (on = steps (8 * p) top) ∧ Hid (steps (8 * (left.toNat * p)) c = steps (8 * n.toNat) a)) (fun _ _ l => (intOf l).toNat)
  case atStart => exact ⟨a, 8388608#32, n, 1, rfl, by rw [u_byteOn], rfl, hn, byteOn.symm, by show _ = _; rw [Nat.mul_one]⟩
  case round =>
    obtain ⟨c, on, left, p, rfl, rfl, rfl, hl, HO, HC⟩ := hrel
    by_cases hp : 0 < left
    · have oc := odd_code left (by omega) hl
      by_cases ho : left % 2 = 1
      · rw [ho] at oc
        have hs : left.toNat = 2 * (left / 2).toNat + 1 := by omega
        have HC2 : Hid (steps (8 * ((left / 2).toNat * (2 * p))) (steps (8 * p) c) = steps (8 * n.toNat) a) := by
          show _ = _
          rw [← HC.out, ← steps_add, hs]
          congr 1
          rw [Nat.add_mul]
          have : (left / 2).toNat * (2 * p) = 2 * (left / 2).toNat * p := by rw [← Nat.mul_assoc, Nat.mul_comm (left / 2).toNat 2]
          omega
        have HO2 : Hid (steps (8 * p) on = steps (8 * (2 * p)) top) := by
          show _ = _
          rw [HO.out, ← steps_add]
          congr 1
          omega
        clear ho hs
        go_wp2_with (first
          | (go_at_call 9; refine (times_pow _ _ (8 * p) HO.out _).mono ?_; rintro e w' ⟨rfl, rfl⟩))
        go_round
        case rel => exact ⟨_, _, left / 2, 2 * p, rfl, rfl, rfl, by omega, HO2, HC2⟩
        case measure => simp [intOf]; omega
      · have ho2 : left % 2 = 0 := by omega
        rw [ho2] at oc
        have hs : left.toNat = 2 * (left / 2).toNat := by omega
        have HC2 : Hid (steps (8 * ((left / 2).toNat * (2 * p))) c = steps (8 * n.toNat) a) := by
          show _ = _
          rw [← HC.out, hs]
          congr 2
          rw [← Nat.mul_assoc, Nat.mul_comm (left / 2).toNat 2]
        have HO2 : Hid (steps (8 * p) on = steps (8 * (2 * p)) top) := by
          show _ = _
          rw [HO.out, ← steps_add]
          congr 1
          omega
        clear ho ho2 hs
        go_wp2_with (first
          | (go_at_call 9; refine (times_pow _ _ (8 * p) HO.out _).mono ?_; rintro e w' ⟨rfl, rfl⟩))
        go_round
        case rel => exact ⟨_, _, left / 2, 2 * p, rfl, rfl, rfl, by omega, HO2, HC2⟩
        case measure => simp [intOf]; omega
    · have hx := bxor c b
      have HJ : Hid (u (c ^^^ b) = u (join a b n)) := by
        show _ = _
        unfold join
        rw [← HC.out, show left.toNat = 0 by omega, Nat.zero_mul]
        rfl
      go_wp2
      go_ret
      exact ⟨ret_int HJ.out, rfl⟩
end Go.Proofs.Ytahiahkjglenoac
