/-
  Proved here: word.TakeVar of a text and a place is what the scan of its groups tells.
-/
import Derived.Test.YtahiahkjglenoaaRefVar
namespace Go.Proofs.Ytahiahkjglenoaa
open Go.ChangeShapes Go.WideShapes Go.ChangeAt Go.RowKit
set_option linter.unusedVariables false

/-- The number of the first k groups from place a on. -/
def val (s : ByteArray) (a : Nat) : Nat → Int
  | 0 => 0
  | k + 1 => val s a k + byteAt s (a + k) % 128 * 2 ^ (7 * k)
/-- What is told of the groups from the k-th on: the number and the place behind it, or nothing. -/
def tk (s : ByteArray) (a : Nat) : Nat → Nat → Option (Int × Nat)
  | 0, _ => none
  | f + 1, k =>
    if s.size ≤ a + k then none
    else if k = 9 ∧ 1 < byteAt s (a + k) then none
    else if 128 ≤ byteAt s (a + k) then tk s a f (k + 1)
    else if byteAt s (a + k) = 0 ∧ 0 < k then none
    else some (val s a (k + 1), a + k + 1)

theorem val_fits (s : ByteArray) (a : Nat) : ∀ k, 0 ≤ val s a k ∧ val s a k < 2 ^ (7 * k)
  | 0 => by simp [val]
  | k + 1 => by
    have h := val_fits s a k
    have hp : (0 : Int) < 2 ^ (7 * k) := Int.pow_pos (by decide)
    have b0 : 0 ≤ byteAt s (a + k) % 128 := by omega
    have b1 : byteAt s (a + k) % 128 ≤ 127 := by omega
    have m1 : 0 ≤ byteAt s (a + k) % 128 * 2 ^ (7 * k) := Int.mul_nonneg b0 (Int.le_of_lt hp)
    have m2 : byteAt s (a + k) % 128 * 2 ^ (7 * k) ≤ 127 * 2 ^ (7 * k) := Int.mul_le_mul_of_nonneg_right b1 (Int.le_of_lt hp)
    rw [val, pow7_succ]
    omega
theorem pow7_le (k : Nat) (h : k ≤ 9) : (2 : Int) ^ (7 * k) ≤ 9223372036854775808 := by
  have : k = 0 ∨ k = 1 ∨ k = 2 ∨ k = 3 ∨ k = 4 ∨ k = 5 ∨ k = 6 ∨ k = 7 ∨ k = 8 ∨ k = 9 := by omega
  rcases this with rfl | rfl | rfl | rfl | rfl | rfl | rfl | rfl | rfl | rfl <;> decide
theorem clear_code (b : Int) (h0 : 0 ≤ b) (h1 : b ≤ 255) : bits .andNot .u8 b 128 = b % 128 := by
  obtain ⟨n, rfl⟩ := Int.eq_ofNat_of_zero_le h0
  have hn : n < 256 := by omega
  rw [show (128 : Int) = ((128 : Nat) : Int) from rfl, u8_andNot_nat n 128 hn (by decide)]
  have all : ∀ k : Fin 256, k.val &&& (255 - 128) = k.val % 128 := by decide +kernel
  have := all ⟨n, hn⟩
  simp only at this
  rw [this]
  omega
theorem mark_code (b : Int) (h0 : 0 ≤ b) (h1 : b ≤ 255) : bits .and .u8 b 128 = if 128 ≤ b then 128 else 0 := by
  obtain ⟨n, rfl⟩ := Int.eq_ofNat_of_zero_le h0
  have hn : n < 256 := by omega
  rw [show (128 : Int) = ((128 : Nat) : Int) from rfl, u8_and_nat n 128 hn (by decide)]
  have all : ∀ k : Fin 256, k.val &&& 128 = if 128 ≤ k.val then 128 else 0 := by decide +kernel
  have := all ⟨n, hn⟩
  simp only at this
  rw [this]
  split <;> split <;> omega
theorem val_code (s : ByteArray) (a k : Nat) (hk : k ≤ 9) (h9 : k = 9 → byteAt s (a + k) ≤ 1) :
    bits .or .u64 (val s a k) (IntKind.u64.wrap (byteAt s (a + k) % 128 * 2 ^ (7 * k))) = val s a (k + 1) ∧ val s a (k + 1) ≤ 18446744073709551615 := by
  have f := val_fits s a k
  have hb := byteAt_fits s (a + k)
  have hp : (0 : Int) < 2 ^ (7 * k) := Int.pow_pos (by decide)
  have hq := pow7_le k hk
  have b0 : 0 ≤ byteAt s (a + k) % 128 := by omega
  have m1 : 0 ≤ byteAt s (a + k) % 128 * 2 ^ (7 * k) := Int.mul_nonneg b0 (Int.le_of_lt hp)
  have m2 : byteAt s (a + k) % 128 * 2 ^ (7 * k) + 2 ^ (7 * k) ≤ 18446744073709551616 := by
    by_cases e : k = 9
    · have := h9 e
      have : byteAt s (a + k) % 128 * 2 ^ (7 * k) ≤ 1 * 2 ^ (7 * k) := Int.mul_le_mul_of_nonneg_right (by omega) (Int.le_of_lt hp)
      omega
    · have : byteAt s (a + k) % 128 * 2 ^ (7 * k) ≤ 127 * 2 ^ (7 * k) := Int.mul_le_mul_of_nonneg_right (by omega) (Int.le_of_lt hp)
      have h8 : (2 : Int) ^ (7 * (k + 1)) ≤ 9223372036854775808 := pow7_le (k + 1) (by omega)
      rw [pow7_succ] at h8
      omega
  have e2 : IntKind.u64.wrap (byteAt s (a + k) % 128 * 2 ^ (7 * k)) = byteAt s (a + k) % 128 * 2 ^ (7 * k) := by rw [IntKind.wrap_u64]; omega
  rw [e2, or_high _ _ (7 * k) f.1 f.2 m1 (by simp) (by omega) (by omega), val]
  omega

theorem take_none (s : ByteArray) (a : Int) (w : World) (hs : s.size ≤ maxLen) (h : a < 0 ∨ (s.size : Int) ≤ a) :
    Calls Try.prog 15 #[.string s, .int .i64 a] w fun e w' => e = .returned (.tuple #[.int .u64 0, .int .i64 0, .bool false]) ∧ w' = w := by
  unfold maxLen at hs
  by_cases h1 : a < 0
  · go_enter Try.func15, Try.ntmps15
    go_wp2
    go_ret3
    exact ⟨rfl, rfl⟩
  · have h2 : (s.size : Int) ≤ a := by omega
    go_enter Try.func15, Try.ntmps15
    go_wp2
    go_ret3
    exact ⟨rfl, rfl⟩

/-- An answer as Go's three results. -/
def told (r : Option (Int × Nat)) : Value := match r with
  | some (v, n) => .tuple #[.int .u64 v, .int .i64 n, .bool true]
  | none => .tuple #[.int .u64 0, .int .i64 0, .bool false]

theorem told_some {r : Option (Int × Nat)} {v v' n : Int} {m : Nat} (h : r = some (v', m)) (h1 : v = v') (h2 : n = (m : Int)) :
    Ending.returned (.tuple #[.int .u64 v, .int .i64 n, .bool true]) = .returned (told r) := by
  rw [h, h1, h2]; rfl
theorem tk_step (s : ByteArray) (a f k : Nat) (x : Int) (hx : byteAt s (a + k) = x) (h : a + k < s.size) :
    (k = 9 → 1 < x → tk s a (f + 1) k = none) ∧ (k ≠ 9 → 128 ≤ x → tk s a (f + 1) k = tk s a f (k + 1)) ∧ (x = 0 → 0 < k → tk s a (f + 1) k = none) ∧
      ((k = 9 → x ≤ 1) → x < 128 → (x = 0 → k = 0) → tk s a (f + 1) k = some (val s a (k + 1), a + k + 1)) := by
  refine ⟨fun h1 h2 => ?_, fun h1 h2 => ?_, fun h1 h2 => ?_, fun h1 h2 h3 => ?_⟩
  · rw [tk, if_neg (by omega), hx, if_pos ⟨h1, h2⟩]
  · rw [tk, if_neg (by omega), hx, if_neg (by omega), if_pos h2]
  · rw [tk, if_neg (by omega), hx, if_neg (by omega), if_neg (by omega), if_pos ⟨h1, h2⟩]
  · rw [tk, if_neg (by omega), hx, if_neg (by omega), if_neg (by omega), if_neg (by omega)]
theorem take_any (s : ByteArray) (a : Nat) (w : World) (hs : s.size ≤ maxLen) (ha : a < s.size) :
    Calls Try.prog 15 #[.string s, .int .i64 a] w fun e w' => e = .returned (told (tk s a 10 0)) ∧ w' = w := by
  unfold maxLen at hs
  have ha' : ¬ (s.size : Int) ≤ a := by omega
  have ha'' : ¬ s.size ≤ a := by omega
  go_enter Try.func15, Try.ntmps15
  go_wp2
  go_loop [7, 22] (fun g i => ∃ k : Nat, k ≤ 9 ∧ a + k ≤ s.size ∧ i = .int .i64 k ∧ g = .int .u64 (val s a k) ∧ Hid (tk s a (10 - k) k = tk s a 10 0)) (fun _ i => 10 - (intOf i).toNat)
  case atStart => exact ⟨0, by omega, by omega, rfl, rfl, rfl⟩
  case round =>
    obtain ⟨k, hk, hks, rfl, rfl, HR⟩ := hrel
    by_cases hlt : a + k < s.size
    · obtain ⟨x, hx⟩ : ∃ x : Nat, (s[a + k]'hlt).toNat = x := ⟨_, rfl⟩
      have hb : x ≤ 255 := by have := (s[a + k]'hlt).toNat_lt; omega
      have HB : Hid (byteAt s (a + k) = (x : Int)) := by show _ = _; rw [byteAt_in s (a + k) hlt, hx]
      have hlt' : (k : Int) < (s.size : Int) - (a : Int) := by omega
      have T := tk_step s a (9 - k) k (x : Int) HB.out (by omega)
      rw [show 9 - k + 1 = 10 - k by omega, HR.out] at T
      obtain ⟨y, hy⟩ : ∃ y : Int, y = (x : Int) % 128 := ⟨_, rfl⟩
      have hc : bits .andNot .u8 (x : Int) 128 = y := by rw [clear_code _ (by omega) (by omega), hy]
      have HY : Hid (y = (x : Int) % 128) := hy
      have hy0 : 0 ≤ y := by omega
      have hy1 : y ≤ 127 := by omega
      clear hy
      by_cases A : k = 9 ∧ 1 < x
      · have t9 : ((k : Int) == 9) = true := by simp; omega
        have t1 : (1 : Int) < (x : Int) := by omega
        have HT : Hid (tk s a 10 0 = none) := T.1 A.1 (by omega)
        clear T A
        go_wp2
        go_ret3
        exact ⟨by rw [HT.out]; rfl, rfl⟩
      · by_cases B : 128 ≤ x
        · have t9 : ((k : Int) == 9) = false := by simp; omega
          have hm : bits .and .u8 (x : Int) 128 = 128 := by rw [mark_code _ (by omega) (by omega), if_pos (by omega)]
          have HT : Hid (tk s a (10 - (k + 1)) (k + 1) = tk s a 10 0) := by show _ = _; rw [T.2.1 (by omega) (by omega)]; rw [show 10 - (k + 1) = 9 - k by omega]
          have HV : Hid (bits .or .u64 (val s a k) (IntKind.u64.wrap (y * 2 ^ (7 * k))) = val s a (k + 1)) := by
            have := (val_code s a k hk (fun e => by omega)).1
            rw [HB.out, ← HY.out] at this; exact this
          have hk8 : k < 9 := by omega
          clear T A
          go_wp2
          go_round
          case rel => exact ⟨k + 1, by omega, by omega, by go_num, by rw [HV.out], HT⟩
          case measure => simp [intOf]; omega
        · have hm : bits .and .u8 (x : Int) 128 = 0 := by rw [mark_code _ (by omega) (by omega), if_neg (by omega)]
          have HV : Hid (bits .or .u64 (val s a k) (IntKind.u64.wrap (y * 2 ^ (7 * k))) = val s a (k + 1)) := by
            have := (val_code s a k hk (fun e => by rw [HB.out]; omega)).1
            rw [HB.out, ← HY.out] at this; exact this
          by_cases C : x = 0 ∧ 0 < k
          · have HT : Hid (tk s a 10 0 = none) := T.2.2.1 (by omega) C.2
            have tx : ((x : Int) == 0) = true := by simp; omega
            have tk0 : (0 : Int) < (k : Int) := by omega
            have t1 : ¬ (1 : Int) < (x : Int) := by omega
            clear T A B C
            go_wp2
            all_goals go_ret3
            all_goals exact ⟨by rw [HT.out]; rfl, rfl⟩
          · have HT : Hid (tk s a 10 0 = some (val s a (k + 1), a + k + 1)) := T.2.2.2 (by omega) (by omega) (by omega)
            have HA : Hid (k = 9 → ¬ (1 : Int) < (x : Int)) := by show _ → _; omega
            have HV9 : Hid (k = 9 → bits .or .u64 (val s a k) (IntKind.u64.wrap (y * 9223372036854775808)) = val s a (k + 1)) := by
              show _ → _
              intro e
              have h := HV.out
              have p : (2 : Int) ^ (7 * k) = 9223372036854775808 := by rw [e]; decide
              rw [p] at h
              exact h
            have HC : Hid (x = 0 → ¬ 0 < k) := by show _ → _; omega
            clear T A C
            go_wp2
            all_goals first
              | (exfalso; have := HA.out; have := HC.out; omega)
              | (go_ret3; exact ⟨told_some HT.out HV.out (by omega), rfl⟩)
              | (go_ret3; exact ⟨told_some HT.out (HV9.out (by omega)) (by omega), rfl⟩)
    · have e : tk s a (10 - k) k = none := by
        rw [show 10 - k = 9 - k + 1 by omega, tk, if_pos (by omega)]
      have HT : Hid (tk s a 10 0 = none) := by show _ = _; rw [← HR.out, e]
      have hlt' : ¬ (k : Int) < (s.size : Int) - (a : Int) := by omega
      clear e
      go_wp2
      go_ret3
      exact ⟨by rw [HT.out]; rfl, rfl⟩
end Go.Proofs.Ytahiahkjglenoaa
