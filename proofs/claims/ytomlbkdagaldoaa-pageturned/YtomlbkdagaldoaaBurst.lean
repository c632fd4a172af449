/-
  Plain facts: bits that are turned within 32 side by side turn the register behind the text.
-/
import Derived.Test.YtomlbkdagaldoaaCrc
namespace Go.Proofs.Ytomlbkdagaldoaa
set_option linter.unusedVariables false
set_option linter.unusedSimpArgs false

/-- A byte of a number, as a register. -/
def dByte (X i : Nat) : BitVec 32 := BitVec.ofNat 32 (X / 2 ^ (8 * i) % 256)
theorem dByte_bit (X i j : Nat) (hj : j < 32) : (dByte X i).getLsbD j = (decide (j < 8) && X.testBit (8 * i + j)) := by
  unfold dByte
  rw [BitVec.getLsbD_ofNat]
  have e : X / 2 ^ (8 * i) % 256 = X / 2 ^ (8 * i) % 2 ^ 8 := rfl
  rw [e, Nat.testBit_mod_two_pow, Nat.testBit_div_two_pow, Nat.add_comm j]
  simp [hj]
theorem dByte_lt (X i : Nat) : (dByte X i).toNat < 256 := by
  unfold dByte
  rw [BitVec.toNat_ofNat]
  omega
theorem four_bytes (X : Nat) : dByte X 0 ^^^ (dByte X 1 <<< 8) ^^^ (dByte X 2 <<< 16) ^^^ (dByte X 3 <<< 24) = BitVec.ofNat 32 X := by
  apply BitVec.eq_of_getLsbD_eq
  intro i hi
  simp only [BitVec.getLsbD_xor, BitVec.getLsbD_shiftLeft, BitVec.getLsbD_ofNat]
  rw [dByte_bit X 0 i hi, dByte_bit X 1 (i - 8) (by omega), dByte_bit X 2 (i - 16) (by omega), dByte_bit X 3 (i - 24) (by omega)]
  have c : i < 8 ∨ (8 ≤ i ∧ i < 16) ∨ (16 ≤ i ∧ i < 24) ∨ (24 ≤ i ∧ i < 32) := by omega
  rcases c with c | c | c | c
  · have h1 : i < 16 := by omega
    have h2 : i < 24 := by omega
    simp [hi, c, h1, h2]
  · have h0 : ¬ i < 8 := by omega
    have h1 : i - 8 < 8 := by omega
    have h2 : i < 24 := by omega
    have e : 8 * 1 + (i - 8) = i := by omega
    rw [e]
    simp [hi, h0, h1, c.2, h2]
  · have h0 : ¬ i < 8 := by omega
    have h1 : ¬ i - 8 < 8 := by omega
    have h2 : ¬ i < 16 := by omega
    have h3 : i - 16 < 8 := by omega
    have e : 8 * 2 + (i - 16) = i := by omega
    rw [e]
    simp [hi, h0, h1, h2, h3, c.2]
  · have h0 : ¬ i < 8 := by omega
    have h1 : ¬ i - 8 < 8 := by omega
    have h2 : ¬ i - 16 < 8 := by omega
    have h3 : ¬ i < 24 := by omega
    have h4 : i - 24 < 8 := by omega
    have e : 8 * 3 + (i - 24) = i := by omega
    rw [e]
    simp [hi, h0, h1, h2, h3, h4]
theorem five_run (X : Nat) : run (dByte X) 5 0#32 = steps 40 (BitVec.ofNat 32 X) ^^^ steps 8 (dByte X 4) := by
  have e : run (dByte X) 5 0#32 = steps 8 (steps 8 (steps 8 (steps 8 (steps 8 (0#32 ^^^ dByte X 0) ^^^ dByte X 1) ^^^ dByte X 2) ^^^ dByte X 3) ^^^ dByte X 4) := rfl
  have s1 := shl_steps 8 (dByte X 1) (by omega) (by have := dByte_lt X 1; omega)
  have s2 := shl_steps 16 (dByte X 2) (by omega) (by have := dByte_lt X 2; omega)
  have s3 := shl_steps 24 (dByte X 3) (by omega) (by have := dByte_lt X 3; omega)
  have t1 : steps 40 (dByte X 1 <<< 8) = steps 32 (dByte X 1) := by rw [show 40 = 32 + 8 from rfl, steps_add, s1]
  have t2 : steps 40 (dByte X 2 <<< 16) = steps 24 (dByte X 2) := by rw [show 40 = 24 + 16 from rfl, steps_add, s2]
  have t3 : steps 40 (dByte X 3 <<< 24) = steps 16 (dByte X 3) := by rw [show 40 = 16 + 24 from rfl, steps_add, s3]
  rw [e, ← four_bytes X]
  simp only [BitVec.zero_xor, steps_xor, ← steps_add]
  rw [t1, t2, t3]
theorem burst (r : BitVec 32) (t : Nat) (ht : t < 8) : run (dByte (r.toNat * 2 ^ t)) 5 0#32 = steps (40 - t) r := by
  rw [five_run]
  have hr := r.isLt
  have e0 : BitVec.ofNat 32 (r.toNat * 2 ^ t) = r <<< t := by
    apply BitVec.eq_of_toNat_eq
    rw [BitVec.toNat_ofNat, BitVec.toNat_shiftLeft, Nat.shiftLeft_eq]
  have hp : 2 ^ t * 2 ^ (32 - t) = 2 ^ 32 := by rw [← Nat.pow_add]; congr 1; omega
  have e4 : dByte (r.toNat * 2 ^ t) 4 = r >>> (32 - t) := by
    apply BitVec.eq_of_getLsbD_eq
    intro i hi
    rw [dByte_bit _ 4 i hi, BitVec.getLsbD_ushiftRight, Nat.mul_comm, Nat.testBit_two_pow_mul]
    have h1 : t ≤ 8 * 4 + i := by omega
    simp only [h1, decide_true, Bool.true_and]
    rw [show 8 * 4 + i - t = 32 - t + i by omega]
    show (decide (i < 8) && r.toNat.testBit (32 - t + i)) = r.toNat.testBit (32 - t + i)
    by_cases h8 : i < 8
    · simp [h8]
    · have z : r.toNat.testBit (32 - t + i) = false := Nat.testBit_lt_two_pow (Nat.lt_of_lt_of_le hr (Nat.pow_le_pow_right (by decide) (by omega)))
      simp [z]
  have lo : ((r <<< t) >>> t) <<< t = r <<< t := by
    apply BitVec.eq_of_getLsbD_eq
    intro i hi
    simp only [BitVec.getLsbD_shiftLeft, BitVec.getLsbD_ushiftRight]
    by_cases c : i < t
    · simp [c]
    · have c1 : t + (i - t) = i := by omega
      have c2 : i - t < 32 := by omega
      rw [c1]
      simp [c, hi]
  have lolt : ((r <<< t) >>> t).toNat < 2 ^ (32 - t) := by
    rw [BitVec.toNat_ushiftRight, Nat.shiftRight_eq_div_pow]
    have := (r <<< t).isLt
    exact Nat.div_lt_of_lt_mul (by rw [hp]; exact this)
  have s1 := shl_steps t ((r <<< t) >>> t) (by omega) lolt
  have hilt : (r >>> (32 - t)).toNat < 2 ^ (32 - (32 - t)) := by
    rw [BitVec.toNat_ushiftRight, Nat.shiftRight_eq_div_pow]
    refine Nat.div_lt_of_lt_mul ?_
    rw [show 32 - (32 - t) = t by omega, Nat.mul_comm, hp]
    exact hr
  have s2 := shl_steps (32 - t) (r >>> (32 - t)) (by omega) hilt
  have both : ((r <<< t) >>> t) ^^^ ((r >>> (32 - t)) <<< (32 - t)) = r := by
    apply BitVec.eq_of_getLsbD_eq
    intro i hi
    simp only [BitVec.getLsbD_xor, BitVec.getLsbD_shiftLeft, BitVec.getLsbD_ushiftRight]
    by_cases c : i < 32 - t
    · have c1 : t + i < 32 := by omega
      have c2 : ¬ t + i < t := by omega
      have c3 : t + i - t = i := by omega
      simp [c, c1]
    · have c1 : ¬ t + i < 32 := by omega
      have c2 : 32 - t + (i - (32 - t)) = i := by omega
      rw [c2]
      simp [c, c1, hi]
  rw [e0, e4, ← lo, show 40 = (40 - t) + t by omega, steps_add, s1]
  rw [show 8 = 8 from rfl]
  have t2 : steps 8 (r >>> (32 - t)) = steps (40 - t) ((r >>> (32 - t)) <<< (32 - t)) := by
    conv => lhs; rw [← s2, ← steps_add]
    congr 1
    omega
  rw [t2, show (40 - t) + t - t = 40 - t by omega, ← steps_xor, both]
/-- What is turned in at the places from p on. -/
def turnedIn (p X : Nat) (i : Nat) : BitVec 32 := if p ≤ i ∧ i < p + 5 then dByte X (i - p) else 0#32
theorem run_turned (p n X : Nat) (h : p + 5 ≤ n) : run (turnedIn p X) n 0#32 = steps (8 * (n - (p + 5))) (run (dByte X) 5 0#32) := by
  have e : n = p + 5 + (n - (p + 5)) := by omega
  conv => lhs; rw [e]
  rw [run_add, run_same (fun i => turnedIn p X (p + 5 + i)) (fun _ => 0#32) _ _ (fun i _ => by unfold turnedIn; rw [if_neg (by omega)]), run_none, run_add]
  rw [run_same (turnedIn p X) (fun _ => 0#32) p _ (fun i hi => by unfold turnedIn; rw [if_neg (by omega)]), run_none, steps_zero]
  rw [run_same (fun i => turnedIn p X (p + i)) (dByte X) 5 _ (fun i hi => by unfold turnedIn; rw [if_pos (by omega)]; congr 1; omega)]
/-- No burst goes unseen. -/
theorem seen (f g : Nat → BitVec 32) (n p : Nat) (r q : BitVec 32) (t : Nat) (ht : t < 8) (hr : r ≠ 0#32) (hn : p + 5 ≤ n)
    (hg : ∀ i, i < n → g i = f i ^^^ turnedIn p (r.toNat * 2 ^ t) i) : run g n q ≠ run f n q := by
  intro h
  have e := run_xor f (turnedIn p (r.toNat * 2 ^ t)) n q 0#32
  rw [BitVec.xor_zero, ← run_same g _ n q hg, h, run_turned p n _ hn, burst r t ht, ← steps_add] at e
  have z : steps (8 * (n - (p + 5)) + (40 - t)) r = 0#32 := by
    have : run f n q ^^^ run f n q = run f n q ^^^ (run f n q ^^^ steps (8 * (n - (p + 5)) + (40 - t)) r) := by rw [← e]
    rw [BitVec.xor_self, ← BitVec.xor_assoc, BitVec.xor_self, BitVec.zero_xor] at this
    exact this.symm
  exact hr (steps_inj _ _ z)
end Go.Proofs.Ytomlbkdagaldoaa
