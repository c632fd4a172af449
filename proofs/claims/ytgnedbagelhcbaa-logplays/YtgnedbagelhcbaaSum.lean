/-
  Proved here: crc.More, crc.Sum and the document's More and Sum (varveref02) are one function of the sum and the text.
-/
import Derived.Test.YtgnedbagelhcbaaWord
import Derived.Test.YtgnedbagelhcbaaCrc
namespace Go.Proofs.Ytgnedbagelhcbaa
open Go.ChangeShapes Go.WideShapes Go.ChangeAt Go.RowKit
set_option linter.unusedVariables false
set_option linter.unusedSimpArgs false
set_option maxRecDepth 20000
theorem ret_int {k : IntKind} {a b : Int} (h : a = b) : Ending.returned (.int k a) = .returned (.int k b) := by rw [h]
def u (r : BitVec 32) : Int := (r.toNat : Int)
theorem u_fits (r : BitVec 32) : 0 ≤ u r ∧ u r ≤ 4294967295 := by
  have := r.isLt
  unfold u; omega
theorem ofInt_u (r : BitVec 32) : BitVec.ofInt 32 (u r) = r := by
  apply BitVec.eq_of_toNat_eq
  unfold u
  rw [BitVec.ofInt_natCast, BitVec.toNat_ofNat]
  exact Nat.mod_eq_of_lt r.isLt
theorem wrap_u (r : BitVec 32) : IntKind.u32.wrap (u r) = u r := by
  have := u_fits r
  rw [IntKind.wrap_u32]; omega
theorem bxor (a b : BitVec 32) : bits .xor .u32 (u a) (u b) = u (a ^^^ b) := by
  show IntKind.u32.wrap ((BitVec.ofInt 32 (u a) ^^^ BitVec.ofInt 32 (u b)).toNat : Int) = _
  rw [ofInt_u, ofInt_u]
  exact wrap_u _
theorem band (a b : BitVec 32) : bits .and .u32 (u a) (u b) = u (a &&& b) := by
  show IntKind.u32.wrap ((BitVec.ofInt 32 (u a) &&& BitVec.ofInt 32 (u b)).toNat : Int) = _
  rw [ofInt_u, ofInt_u]
  exact wrap_u _
theorem half (r : BitVec 32) : u r / (2 : Int) = u (r >>> (1 : Nat)) := by
  unfold u
  rw [BitVec.toNat_ushiftRight, Nat.shiftRight_eq_div_pow]
  omega
theorem low_bit (r : BitVec 32) : r.getLsbD 0 = decide (u r % 2 = 1) := by
  show r.toNat.testBit 0 = _
  rw [Nat.testBit_zero, decide_eq_decide]
  unfold u; omega
theorem step_odd (r : BitVec 32) (h : u r % 2 = 1) : step r = (r >>> 1) ^^^ 0xedb88320#32 := by
  unfold step; rw [low_bit, h]; simp
theorem step_even (r : BitVec 32) (h : ¬ u r % 2 = 1) : step r = r >>> 1 := by
  unfold step; rw [low_bit]; simp [h]
theorem and1 (r : BitVec 32) : bits BinOp.and IntKind.u32 (u r) 1 = u r % 2 := by
  have lt := u_fits r
  rw [u32_and _ _ (by omega) (by omega) (by decide) (by decide)]
  show (((u r).toNat &&& 1 : Nat) : Int) = _
  rw [nat_mask1]; omega
theorem step_code (r : BitVec 32) : bits BinOp.xor IntKind.u32 (u r / 2) (bits BinOp.and IntKind.u32 3988292384 (-bits BinOp.and IntKind.u32 (u r) 1 % 4294967296)) = u (step r) := by
  have lt := u_fits r
  have e2 : (3988292384 : Int) = u (0xedb88320#32) := by decide
  rw [and1, half]
  by_cases h : u r % 2 = 1
  · rw [h, step_odd r h]
    have e1 : -(1 : Int) % 4294967296 = u (0xffffffff#32) := by decide
    rw [e1, e2, band, bxor]
    rfl
  · have h0 : u r % 2 = 0 := by omega
    rw [h0, step_even r h]
    have e1 : -(0 : Int) % 4294967296 = u (0#32) := by decide
    rw [e1, e2, band, bxor]
    simp
theorem not_code (r : BitVec 32) : bits .xor .u32 IntKind.u32.max (u r) = u (~~~ r) := by
  have e1 : IntKind.u32.max = u (0xffffffff#32) := by decide
  rw [e1, bxor, ← BitVec.allOnes_xor]
  rfl
theorem not_sub (r : BitVec 32) : 4294967295 - u r = u (~~~ r) := by
  have lt := r.isLt
  unfold u
  rw [BitVec.toNat_not]
  omega
theorem step_any (r : BitVec 32) (w : World) : Calls Try.prog 93 #[.int .u32 (u r)] w fun e w' => e = .returned (.int .u32 (u (step r))) ∧ w' = w := by
  have lt := u_fits r
  have HC := step_code r
  have H : Hid (bits BinOp.xor IntKind.u32 (u r / 2) (bits BinOp.and IntKind.u32 3988292384 (-bits BinOp.and IntKind.u32 (u r) 1 % 4294967296)) = u (step r)) := HC
  clear HC
  go_enter Try.func93, Try.ntmps93
  go_wp2
  go_ret
  exact ⟨ret_int H.out, rfl⟩
theorem turned_any (r : BitVec 32) (w : World) : Calls Try.prog 94 #[.int .u32 (u r)] w fun e w' => e = .returned (.int .u32 (u (step r))) ∧ w' = w := by
  have lt := u_fits r
  by_cases h : u r % 2 = 1
  · have t : ((u r % 2) == 1) = true := by simp [h]
    have HV : Hid (bits BinOp.xor IntKind.u32 (u r / 2) 3988292384 = u (step r)) := by
      show _ = _
      have e2 : (3988292384 : Int) = u (0xedb88320#32) := by decide
      rw [half, e2, bxor, step_odd r h]
    clear h
    go_enter Try.func94, Try.ntmps94
    go_wp2
    go_ret
    exact ⟨ret_int HV.out, rfl⟩
  · have t : ((u r % 2) == 1) = false := by simp [h]
    have HV : Hid (u r / 2 = u (step r)) := by
      show _ = _
      rw [half, step_even r h]
    clear h
    go_enter Try.func94, Try.ntmps94
    go_wp2
    go_ret
    exact ⟨ret_int HV.out, rfl⟩
def bAt (s : ByteArray) (i : Nat) : BitVec 32 := if h : i < s.size then BitVec.ofNat 32 (s[i]'h).toNat else 0#32
theorem bAt_in (s : ByteArray) (i : Nat) (h : i < s.size) : ((s[i]'h).toNat : Int) % 4294967296 = u (bAt s i) := by
  have := (s[i]'h).toNat_lt
  unfold bAt u
  rw [dif_pos h, BitVec.toNat_ofNat]
  omega
def more (r : BitVec 32) (s : ByteArray) : BitVec 32 := ~~~ (run (bAt s) s.size (~~~ r))
theorem more_any (r : BitVec 32) (s : ByteArray) (w : World) (hs : s.size ≤ maxLen) : Calls Try.prog 87 #[.int .u32 (u r), .string s] w fun e w' => e = .returned (.int .u32 (u (more r s))) ∧ w' = w := by
  unfold maxLen at hs
  have n1 := not_code r
  go_enter Try.func87, Try.ntmps87
  go_wp2
  go_loop [5, 11] (fun g i => ∃ (k : Nat) (q : BitVec 32), k ≤ s.size ∧ i = .int .i64 k ∧ g = .int .u32 (u q) ∧ Hid (q = run (bAt s) k (~~~ r))) (fun _ i => s.size - (intOf i).toNat)
  case atStart => exact ⟨0, ~~~ r, Nat.zero_le _, rfl, rfl, rfl⟩
  case round =>
    obtain ⟨k, q, hk, rfl, rfl, HQ⟩ := hrel
    by_cases hlt : k < s.size
    · have hx := bxor q (bAt s k)
      rw [← bAt_in s k hlt] at hx
      have hlt' : (k : Int) < (s.size : Int) := by omega
      go_wp2
      go_loop [5, 20] (fun g i => ∃ j : Nat, j ≤ 8 ∧ i = .int .i64 j ∧ g = .int .u32 (u (steps j (q ^^^ bAt s k)))) (fun _ i => 8 - (intOf i).toNat)
      case atStart => exact ⟨0, by omega, rfl, rfl⟩
      case round =>
        obtain ⟨j, hj, rfl, rfl⟩ := hrel
        by_cases hl8 : j < 8
        · have hl8' : (j : Int) < 8 := by omega
          go_wp2_with (go_at_call 93; refine (step_any _ _).mono ?_; rintro e w' ⟨rfl, rfl⟩)
          go_round
          case rel => exact ⟨j + 1, by omega, by go_num, rfl⟩
          case measure => simp [intOf]; omega
        · have e : j = 8 := by omega
          subst e
          go_wp2
          go_round
          case rel => exact ⟨k + 1, _, by omega, by go_num, rfl, (show _ = _ by rw [run, HQ.out])⟩
          case measure => simp [intOf]; omega
    · have e : k = s.size := by omega
      subst e
      have n2 := not_code q
      have HM : Hid (u (~~~ q) = u (more r s)) := by show _ = _; rw [HQ.out]; rfl
      go_wp2
      go_ret
      exact ⟨ret_int HM.out, rfl⟩
theorem rmore_any (r : BitVec 32) (s : ByteArray) (w : World) (hs : s.size ≤ maxLen) : Calls Try.prog 88 #[.int .u32 (u r), .string s] w fun e w' => e = .returned (.int .u32 (u (more r s))) ∧ w' = w := by
  unfold maxLen at hs
  have n1 := not_sub r
  have lt := u_fits r
  go_enter Try.func88, Try.ntmps88
  go_wp2
  go_loop [5, 6] (fun g i => ∃ (k : Nat) (q : BitVec 32), k ≤ s.size ∧ i = .int .i64 k ∧ g = .int .u32 (u q) ∧ Hid (q = run (bAt s) k (~~~ r))) (fun _ i => s.size - (intOf i).toNat)
  case atStart => exact ⟨0, ~~~ r, Nat.zero_le _, rfl, by first | rfl | rw [n1], rfl⟩
  case round =>
    obtain ⟨k, q, hk, rfl, rfl, HQ⟩ := hrel
    by_cases hlt : k < s.size
    · have hx := bxor q (bAt s k)
      rw [← bAt_in s k hlt] at hx
      have hlt' : (k : Int) < (s.size : Int) := by omega
      go_wp2
      go_loop [5, 7] (fun g i => ∃ j : Nat, j ≤ 8 ∧ i = .int .i64 j ∧ g = .int .u32 (u (steps j (q ^^^ bAt s k)))) (fun _ i => 8 - (intOf i).toNat)
      case atStart => exact ⟨0, by omega, rfl, rfl⟩
      case round =>
        obtain ⟨j, hj, rfl, rfl⟩ := hrel
        by_cases hl8 : j < 8
        · have hl8' : (j : Int) < 8 := by omega
          go_wp2_with (go_at_call 94; refine (turned_any _ _).mono ?_; rintro e w' ⟨rfl, rfl⟩)
          go_round
          case rel => exact ⟨j + 1, by omega, by go_num, rfl⟩
          case measure => simp [intOf]; omega
        · have e : j = 8 := by omega
          subst e
          go_wp2
          go_round
          case rel => exact ⟨k + 1, _, by omega, by go_num, rfl, (show _ = _ by rw [run, HQ.out])⟩
          case measure => simp [intOf]; omega
    · have e : k = s.size := by omega
      subst e
      have n2 := not_sub q
      have ltq := u_fits q
      have HM : Hid (u (~~~ q) = u (more r s)) := by show _ = _; rw [HQ.out]; rfl
      go_wp2
      go_ret
      exact ⟨ret_int HM.out, rfl⟩
theorem sum_any (s : ByteArray) (w : World) (hs : s.size ≤ maxLen) : Calls Try.prog 69 #[.string s] w fun e w' => e = .returned (.int .u32 (u (more 0#32 s))) ∧ w' = w := by
  go_enter Try.func69, Try.ntmps69
  go_wp2_with (go_at_call 87; refine (more_any 0#32 s _ hs).mono ?_; rintro e w' ⟨rfl, rfl⟩)
  go_ret
  exact ⟨rfl, rfl⟩
theorem rsum_any (s : ByteArray) (w : World) (hs : s.size ≤ maxLen) : Calls Try.prog 72 #[.string s] w fun e w' => e = .returned (.int .u32 (u (more 0#32 s))) ∧ w' = w := by
  go_enter Try.func72, Try.ntmps72
  go_wp2_with (go_at_call 88; refine (rmore_any 0#32 s _ hs).mono ?_; rintro e w' ⟨rfl, rfl⟩)
  go_ret
  exact ⟨rfl, rfl⟩
end Go.Proofs.Ytgnedbagelhcbaa
