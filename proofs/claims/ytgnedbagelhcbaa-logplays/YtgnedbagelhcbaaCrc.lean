/-
  Plain facts of the checksum's register: its steps are linear and lose nothing, and the product that Join makes is so many steps.
-/
import Derived.Test.YtgnedbagelhcbaaRows
namespace Go.Proofs.Ytgnedbagelhcbaa
set_option linter.unusedVariables false
set_option linter.unusedSimpArgs false
set_option maxRecDepth 20000

/-- A register, one bit on. -/
def step (r : BitVec 32) : BitVec 32 := (r >>> 1) ^^^ (if r.getLsbD 0 then 0xedb88320#32 else 0#32)
/-- A register, k bits on. -/
def steps : Nat → BitVec 32 → BitVec 32
  | 0, r => r
  | k + 1, r => step (steps k r)

theorem step_xor (a b : BitVec 32) : step (a ^^^ b) = step a ^^^ step b := by
  unfold step
  rw [BitVec.ushiftRight_xor_distrib, BitVec.getLsbD_xor]
  have c : ∀ x y m : BitVec 32, x ^^^ m ^^^ (y ^^^ m) = x ^^^ y := by
    intro x y m
    rw [BitVec.xor_comm y m, BitVec.xor_assoc, ← BitVec.xor_assoc m m y, BitVec.xor_self, BitVec.zero_xor]
  cases a.getLsbD 0 <;> cases b.getLsbD 0 <;> simp only [Bool.false_xor, Bool.xor_false, Bool.true_xor, Bool.not_true, Bool.not_false, if_true, if_false, Bool.false_eq_true, BitVec.xor_zero, c]
  · ac_rfl
  · ac_rfl
theorem step_zero : step 0#32 = 0#32 := by decide
theorem steps_xor (k : Nat) (a b : BitVec 32) : steps k (a ^^^ b) = steps k a ^^^ steps k b := by
  induction k with
  | zero => rfl
  | succ k ih => rw [steps, ih, step_xor]; rfl
theorem steps_zero (k : Nat) : steps k 0#32 = 0#32 := by
  induction k with
  | zero => rfl
  | succ k ih => rw [steps, ih, step_zero]
theorem steps_add (k j : Nat) (a : BitVec 32) : steps (k + j) a = steps k (steps j a) := by
  induction k with
  | zero => rw [Nat.zero_add]; rfl
  | succ k ih => rw [Nat.succ_add, steps, ih]; rfl
theorem steps_comm (k j : Nat) (a : BitVec 32) : steps k (steps j a) = steps j (steps k a) := by
  rw [← steps_add, ← steps_add, Nat.add_comm]
theorem step_inj (a : BitVec 32) (h : step a = 0#32) : a = 0#32 := by
  unfold step at h
  by_cases b : a.getLsbD 0 = true
  · rw [if_pos b] at h
    exfalso
    have h31 := congrArg (fun x : BitVec 32 => x.getLsbD 31) h
    simp [BitVec.getLsbD_ushiftRight] at h31
  · rw [if_neg b, BitVec.xor_zero] at h
    apply BitVec.eq_of_getLsbD_eq
    intro i hi
    rcases Nat.eq_zero_or_pos i with q | q
    · subst q; simpa using b
    · have := congrArg (fun x : BitVec 32 => x.getLsbD (i - 1)) h
      simp only [BitVec.getLsbD_ushiftRight, BitVec.getLsbD_zero] at this
      rw [show 1 + (i - 1) = i by omega] at this
      simpa using this
theorem steps_inj (k : Nat) (a : BitVec 32) (h : steps k a = 0#32) : a = 0#32 := by
  induction k with
  | zero => exact h
  | succ k ih => exact ih (step_inj _ h)

/-- The register behind k bytes. -/
def run (f : Nat → BitVec 32) : Nat → BitVec 32 → BitVec 32
  | 0, r => r
  | k + 1, r => steps 8 (run f k r ^^^ f k)
theorem run_xor (f g : Nat → BitVec 32) (k : Nat) (r q : BitVec 32) : run (fun i => f i ^^^ g i) k (r ^^^ q) = run f k r ^^^ run g k q := by
  induction k with
  | zero => rfl
  | succ k ih =>
    simp only [run, ih]
    rw [← steps_xor]
    congr 1
    ac_rfl
theorem run_none (k : Nat) (q : BitVec 32) : run (fun _ => 0#32) k q = steps (8 * k) q := by
  induction k with
  | zero => rfl
  | succ k ih =>
    simp only [run, ih, BitVec.xor_zero]
    rw [← steps_add, show 8 + 8 * k = 8 * (k + 1) by omega]
theorem run_same (f g : Nat → BitVec 32) (k : Nat) (r : BitVec 32) (h : ∀ i, i < k → f i = g i) : run f k r = run g k r := by
  induction k with
  | zero => rfl
  | succ k ih => rw [run, run, ih (fun i hi => h i (by omega)), h k (by omega)]
theorem run_add (f : Nat → BitVec 32) (n k : Nat) (r : BitVec 32) : run f (n + k) r = run (fun i => f (n + i)) k (run f n r) := by
  induction k with
  | zero => rfl
  | succ k ih => rw [← Nat.add_assoc, run, ih]; rfl
theorem run_affine (f : Nat → BitVec 32) (k : Nat) (r : BitVec 32) : run f k r = steps (8 * k) r ^^^ run f k 0#32 := by
  have h := run_xor (fun _ => 0#32) f k r 0#32
  simp only [BitVec.zero_xor, BitVec.xor_zero] at h
  rw [run_none] at h
  exact h

/-- The highest bit alone. -/
def top : BitVec 32 := 0x80000000#32
theorem steps_top : ∀ i : Fin 32, steps i.val top = 1#32 <<< (31 - i.val) := by decide +kernel

/-- The sum of those of a's first n steps whose bit is set in on, the highest first. -/
def prod (on : BitVec 32) (a : BitVec 32) : Nat → BitVec 32
  | 0 => 0#32
  | i + 1 => prod on a i ^^^ (if on.getLsbD (31 - i) then steps i a else 0#32)
theorem prod_xor (on a b : BitVec 32) (n : Nat) : prod on (a ^^^ b) n = prod on a n ^^^ prod on b n := by
  induction n with
  | zero => simp [prod]
  | succ n ih =>
    simp only [prod, ih]
    split
    · rw [steps_xor]; ac_rfl
    · simp
theorem prod_steps (on a : BitVec 32) (j n : Nat) : prod on (steps j a) n = steps j (prod on a n) := by
  induction n with
  | zero => rw [prod, prod, steps_zero]
  | succ n ih =>
    simp only [prod, ih, steps_xor]
    split
    · rw [steps_comm]
    · rw [steps_zero]
theorem prod_zero (on : BitVec 32) (n : Nat) : prod on 0#32 n = 0#32 := by
  have := prod_steps on 0#32 0 n
  induction n with
  | zero => rfl
  | succ n ih =>
    have h := ih (by rfl)
    simp only [prod, h, steps_zero]
    split <;> simp
theorem prod_top_bit (on : BitVec 32) (n : Nat) (hn : n ≤ 32) : ∀ i, i < 32 → (prod on top n).getLsbD i = (decide (32 - n ≤ i) && on.getLsbD i) := by
  induction n with
  | zero =>
    intro i hi
    simp [prod]
    omega
  | succ n ih =>
    intro i hi
    rw [prod, BitVec.getLsbD_xor, ih (by omega) i hi, steps_top ⟨n, by omega⟩]
    by_cases e : i = 31 - n
    · subst e
      have h1 : ¬ (32 - n ≤ 31 - n) := by omega
      have h2 : 32 - (n + 1) ≤ 31 - n := by omega
      cases hb : on.getLsbD (31 - n)
      · simp [h1]
      · simp [h1, h2, BitVec.getLsbD_shiftLeft]
        omega
    · have h3 : (decide (32 - n ≤ i)) = (decide (32 - (n + 1) ≤ i)) := by
        rw [decide_eq_decide]; omega
      rw [h3]
      have h4 : (1#32 <<< (31 - n)).getLsbD i = false := by
        simp [BitVec.getLsbD_shiftLeft]
        omega
      cases hb : on.getLsbD (31 - n)
      · simp
      · simp [h4]
theorem prod_top (on : BitVec 32) : prod on top 32 = on := by
  apply BitVec.eq_of_getLsbD_eq
  intro i hi
  rw [prod_top_bit on 32 (by omega) i hi]
  simp
/-- Every register is made of the highest bit's steps. -/
theorem prod_self (a b : BitVec 32) : prod a b 32 = prod b a 32 := by
  have ha : prod a top 32 = a := prod_top a
  have key : ∀ n, prod a (prod b top n) 32 = prod b (prod a top 32) n := by
    intro n
    induction n with
    | zero => rw [prod, prod, prod_zero]
    | succ n ih =>
      have e1 : prod b top (n + 1) = prod b top n ^^^ (if b.getLsbD (31 - n) then steps n top else 0#32) := rfl
      have e2 : prod b (prod a top 32) (n + 1) = prod b (prod a top 32) n ^^^ (if b.getLsbD (31 - n) then steps n (prod a top 32) else 0#32) := rfl
      rw [e1, e2, prod_xor, ih]
      congr 1
      split
      · rw [prod_steps]
      · rw [prod_zero]
  have h := key 32
  rw [prod_top b, prod_top a] at h
  exact h
/-- The product by what m steps make of the highest bit is m steps. -/
theorem prod_pow (m : Nat) (a : BitVec 32) : prod (steps m top) a 32 = steps m a := by
  rw [prod_self, prod_steps, prod_top]

theorem shl_steps (k : Nat) : ∀ y : BitVec 32, k ≤ 32 → y.toNat < 2 ^ (32 - k) → steps k (y <<< k) = y := by
  induction k with
  | zero => intro y _ _; simp [steps]
  | succ k ih =>
    intro y hk hy
    rw [show k + 1 = k + 1 from rfl, steps_add k 1]
    have e : steps 1 (y <<< (k + 1)) = y <<< k := by
      show step (y <<< (k + 1)) = y <<< k
      unfold step
      have b : (y <<< (k + 1)).getLsbD 0 = false := by simp
      rw [b]
      simp only [Bool.false_eq_true, if_false, BitVec.xor_zero]
      apply BitVec.eq_of_getLsbD_eq
      intro i hi
      simp only [BitVec.getLsbD_ushiftRight, BitVec.getLsbD_shiftLeft]
      by_cases c : i < k
      · have c2 : 1 + i < k + 1 := by omega
        simp [c, c2]
      · have c2 : ¬ (1 + i < k + 1) := by omega
        rw [show 1 + i - (k + 1) = i - k by omega]
        simp only [c, c2, decide_false, Bool.not_false, Bool.true_and]
        by_cases d : 1 + i < 32
        · simp [d, hi]
        · have z : y.getLsbD (i - k) = false := by
            show y.toNat.testBit (i - k) = false
            exact Nat.testBit_lt_two_pow (Nat.lt_of_lt_of_le hy (Nat.pow_le_pow_right (by decide) (by omega)))
          simp [z]
    rw [e, ih y (by omega) (by
      have : (2 : Nat) ^ (32 - (k + 1)) ≤ 2 ^ (32 - k) := Nat.pow_le_pow_right (by decide) (by omega)
      omega)]
end Go.Proofs.Ytgnedbagelhcbaa
