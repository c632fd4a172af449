/-
  Plain facts of the checksum's register: its steps are linear and lose nothing, and the product that Join makes is so many steps. Proved here: crc.More, crc.Sum and the document's More and Sum (varveref02) are one function of the sum and the text.
-/
import Derived.Test.YtihjapfgllokgabRows
import Derived.Test.YtihjapfgllokgabWord
namespace Go.Proofs.Ytihjapfgllokgab
set_option linter.unusedVariables false
set_option linter.unusedSimpArgs false
set_option maxRecDepth 20000

/-- A register, one bit on. -/
def step (r : BitVec 32) : BitVec 32 := (r >>> 1) ^^^ (if r.getLsbD 0 then 0xedb88320#32 else 0#32)
/-- A register, k bits on. -/
def steps : Nat → BitVec 32 → BitVec 32
  | 0, r => r
  | k + 1, r => step (steps k r)

theorem step_xor (a b : BitVec 32) : step (a ^^^ b) = step a ^^^ step b := by
  unfold step
  rw [BitVec.ushiftRight_xor_distrib, BitVec.getLsbD_xor]
  have c : ∀ x y m : BitVec 32, x ^^^ m ^^^ (y ^^^ m) = x ^^^ y := by
    intro x y m
    rw [BitVec.xor_comm y m, BitVec.xor_assoc, ← BitVec.xor_assoc m m y, BitVec.xor_self, BitVec.zero_xor]
  cases a.getLsbD 0 <;> cases b.getLsbD 0 <;> simp only [Bool.false_xor, Bool.xor_false, Bool.true_xor, Bool.not_true, Bool.not_false, if_true, if_false, Bool.false_eq_true, BitVec.xor_zero, c]
  · ac_rfl
  · ac_rfl
theorem step_zero : step 0#32 = 0#32 := by decide
theorem steps_xor (k : Nat) (a b : BitVec 32) : steps k (a ^^^ b) = steps k a ^^^ steps k b := by
  induction k with
  | zero => rfl
  | succ k ih => rw [steps, ih, step_xor]; rfl
theorem steps_zero (k : Nat) : steps k 0#32 = 0#32 := by
  induction k with
  | zero => rfl
  | succ k ih => rw [steps, ih, step_zero]
theorem steps_add (k j : Nat) (a : BitVec 32) : steps (k + j) a = steps k (steps j a) := by
  induction k with
  | zero => rw [Nat.zero_add]; rfl
  | succ k ih => rw [Nat.succ_add, steps, ih]; rfl
theorem steps_comm (k j : Nat) (a : BitVec 32) : steps k (steps j a) = steps j (steps k a) := by
  rw [← steps_add, ← steps_add, Nat.add_comm]
theorem step_inj (a : BitVec 32) (h : step a = 0#32) : a = 0#32 := by
  unfold step at h
  by_cases b : a.getLsbD 0 = true
  · rw [if_pos b] at h
    exfalso
    have h31 := congrArg (fun x : BitVec 32 => x.getLsbD 31) h
    simp [BitVec.getLsbD_ushiftRight] at h31
  · rw [if_neg b, BitVec.xor_zero] at h
    apply BitVec.eq_of_getLsbD_eq
    intro i hi
    rcases Nat.eq_zero_or_pos i with q | q
    · subst q; simpa using b
    · have := congrArg (fun x : BitVec 32 => x.getLsbD (i - 1)) h
      simp only [BitVec.getLsbD_ushiftRight, BitVec.getLsbD_zero] at this
      rw [show 1 + (i - 1) = i by omega] at this
      simpa using this
theorem steps_inj (k : Nat) (a : BitVec 32) (h : steps k a = 0#32) : a = 0#32 := by
  induction k with
  | zero => exact h
  | succ k ih => exact ih (step_inj _ h)

/-- The register behind k bytes. -/
def run (f : Nat → BitVec 32) : Nat → BitVec 32 → BitVec 32
  | 0, r => r
  | k + 1, r => steps 8 (run f k r ^^^ f k)
theorem run_xor (f g : Nat → BitVec 32) (k : Nat) (r q : BitVec 32) : run (fun i => f i ^^^ g i) k (r ^^^ q) = run f k r ^^^ run g k q := by
  induction k with
  | zero => rfl
  | succ k ih =>
    simp only [run, ih]
    rw [← steps_xor]
    congr 1
    ac_rfl
theorem run_none (k : Nat) (q : BitVec 32) : run (fun _ => 0#32) k q = steps (8 * k) q := by
  induction k with
  | zero => rfl
  | succ k ih =>
    simp only [run, ih, BitVec.xor_zero]
    rw [← steps_add, show 8 + 8 * k = 8 * (k + 1) by omega]
theorem run_same (f g : Nat → BitVec 32) (k : Nat) (r : BitVec 32) (h : ∀ i, i < k → f i = g i) : run f k r = run g k r := by
  induction k with
  | zero => rfl
  | succ k ih => rw [run, run, ih (fun i hi => h i (by omega)), h k (by omega)]
theorem run_add (f : Nat → BitVec 32) (n k : Nat) (r : BitVec 32) : run f (n + k) r = run (fun i => f (n + i)) k (run f n r) := by
  induction k with
  | zero => rfl
  | succ k ih => rw [← Nat.add_assoc, run, ih]; rfl
theorem run_affine (f : Nat → BitVec 32) (k : Nat) (r : BitVec 32) : run f k r = steps (8 * k) r ^^^ run f k 0#32 := by
  have h := run_xor (fun _ => 0#32) f k r 0#32
  simp only [BitVec.zero_xor, BitVec.xor_zero] at h
  rw [run_none] at h
  exact h

/-- The highest bit alone. -/
def top : BitVec 32 := 0x80000000#32
theorem steps_top : ∀ i : Fin 32, steps i.val top = 1#32 <<< (31 - i.val) := by decide +kernel

/-- The sum of those of a's first n steps whose bit is set in on, the highest first. -/
def prod (on : BitVec 32) (a : BitVec 32) : Nat → BitVec 32
  | 0 => 0#32
  | i + 1 => prod on a i ^^^ (if on.getLsbD (31 - i) then steps i a else 0#32)
theorem prod_xor (on a b : BitVec 32) (n : Nat) : prod on (a ^^^ b) n = prod on a n ^^^ prod on b n := by
  induction n with
  | zero => simp [prod]
  | succ n ih =>
    simp only [prod, ih]
    split
    · rw [steps_xor]; ac_rfl
    · simp
theorem prod_steps (on a : BitVec 32) (j n : Nat) : prod on (steps j a) n = steps j (prod on a n) := by
  induction n with
  | zero => rw [prod, prod, steps_zero]
  | succ n ih =>
    simp only [prod, ih, steps_xor]
    split
    · rw [steps_comm]
    · rw [steps_zero]
theorem prod_zero (on : BitVec 32) (n : Nat) : prod on 0#32 n = 0#32 := by
  have := prod_steps on 0#32 0 n
  induction n with
  | zero => rfl
  | succ n ih =>
    have h := ih (by rfl)
    simp only [prod, h, steps_zero]
    split <;> simp
theorem prod_top_bit (on : BitVec 32) (n : Nat) (hn : n ≤ 32) : ∀ i, i < 32 → (prod on top n).getLsbD i = (decide (32 - n ≤ i) && on.getLsbD i) := by
  induction n with
  | zero =>
    intro i hi
    simp [prod]
    omega
  | succ n ih =>
    intro i hi
    rw [prod, BitVec.getLsbD_xor, ih (by omega) i hi, steps_top ⟨n, by omega⟩]
    by_cases e : i = 31 - n
    · subst e
      have h1 : ¬ (32 - n ≤ 31 - n) := by omega
      have h2 : 32 - (n + 1) ≤ 31 - n := by omega
      cases hb : on.getLsbD (31 - n)
      · simp [h1]
      · simp [h1, h2, BitVec.getLsbD_shiftLeft]
        omega
    · have h3 : (decide (32 - n ≤ i)) = (decide (32 - (n + 1) ≤ i)) := by
        rw [decide_eq_decide]; omega
      rw [h3]
      have h4 : (1#32 <<< (31 - n)).getLsbD i = false := by
        simp [BitVec.getLsbD_shiftLeft]
        omega
      cases hb : on.getLsbD (31 - n)
      · simp
      · simp [h4]
theorem prod_top (on : BitVec 32) : prod on top 32 = on := by
  apply BitVec.eq_of_getLsbD_eq
  intro i hi
  rw [prod_top_bit on 32 (by omega) i hi]
  simp
/-- Every register is made of the highest bit's steps. -/
theorem prod_self (a b : BitVec 32) : prod a b 32 = prod b a 32 := by
  have ha : prod a top 32 = a := prod_top a
  have key : ∀ n, prod a (prod b top n) 32 = prod b (prod a top 32) n := by
    intro n
    induction n with
    | zero => rw [prod, prod, prod_zero]
    | succ n ih =>
      have e1 : prod b top (n + 1) = prod b top n ^^^ (if b.getLsbD (31 - n) then steps n top else 0#32) := rfl
      have e2 : prod b (prod a top 32) (n + 1) = prod b (prod a top 32) n ^^^ (if b.getLsbD (31 - n) then steps n (prod a top 32) else 0#32) := rfl
      rw [e1, e2, prod_xor, ih]
      congr 1
      split
      · rw [prod_steps]
      · rw [prod_zero]
  have h := key 32
  rw [prod_top b, prod_top a] at h
  exact h
/-- The product by what m steps make of the highest bit is m steps. -/
theorem prod_pow (m : Nat) (a : BitVec 32) : prod (steps m top) a 32 = steps m a := by
  rw [prod_self, prod_steps, prod_top]

theorem shl_steps (k : Nat) : ∀ y : BitVec 32, k ≤ 32 → y.toNat < 2 ^ (32 - k) → steps k (y <<< k) = y := by
  induction k with
  | zero => intro y _ _; simp [steps]
  | succ k ih =>
    intro y hk hy
    rw [show k + 1 = k + 1 from rfl, steps_add k 1]
    have e : steps 1 (y <<< (k + 1)) = y <<< k := by
      show step (y <<< (k + 1)) = y <<< k
      unfold step
      have b : (y <<< (k + 1)).getLsbD 0 = false := by simp
      rw [b]
      simp only [Bool.false_eq_true, if_false, BitVec.xor_zero]
      apply BitVec.eq_of_getLsbD_eq
      intro i hi
      simp only [BitVec.getLsbD_ushiftRight, BitVec.getLsbD_shiftLeft]
      by_cases c : i < k
      · have c2 : 1 + i < k + 1 := by omega
        simp [c, c2]
      · have c2 : ¬ (1 + i < k + 1) := by omega
        rw [show 1 + i - (k + 1) = i - k by omega]
        simp only [c, c2, decide_false, Bool.not_false, Bool.true_and]
        by_cases d : 1 + i < 32
        · simp [d, hi]
        · have z : y.getLsbD (i - k) = false := by
            show y.toNat.testBit (i - k) = false
            exact Nat.testBit_lt_two_pow (Nat.lt_of_lt_of_le hy (Nat.pow_le_pow_right (by decide) (by omega)))
          simp [z]
    rw [e, ih y (by omega) (by
      have : (2 : Nat) ^ (32 - (k + 1)) ≤ 2 ^ (32 - k) := Nat.pow_le_pow_right (by decide) (by omega)
      omega)]
end Go.Proofs.Ytihjapfgllokgab
namespace Go.Proofs.Ytihjapfgllokgab
open Go.ChangeShapes Go.WideShapes Go.ChangeAt Go.RowKit
set_option linter.unusedVariables false
set_option linter.unusedSimpArgs false
set_option maxRecDepth 20000

theorem ret_int {k : IntKind} {a b : Int} (h : a = b) : Ending.returned (.int k a) = .returned (.int k b) := by rw [h]
theorem ret_str {a b : ByteArray} (h : a = b) : Ending.returned (.string a) = .returned (.string b) := by rw [h]

/-- A register as a number. -/
def u (r : BitVec 32) : Int := (r.toNat : Int)
theorem u_fits (r : BitVec 32) : 0 ≤ u r ∧ u r ≤ 4294967295 := by
  have := r.isLt
  unfold u; omega
theorem u_of (x : Int) (h : 0 ≤ x ∧ x ≤ 4294967295) : ∃ r, x = u r := by
  refine ⟨BitVec.ofNat 32 x.toNat, ?_⟩
  unfold u
  rw [BitVec.toNat_ofNat]; omega
theorem u_inj {a b : BitVec 32} (h : u a = u b) : a = b := by
  unfold u at h
  exact BitVec.eq_of_toNat_eq (by omega)
theorem ofInt_u (r : BitVec 32) : BitVec.ofInt 32 (u r) = r := by
  apply BitVec.eq_of_toNat_eq
  unfold u
  rw [BitVec.ofInt_natCast, BitVec.toNat_ofNat]
  exact Nat.mod_eq_of_lt r.isLt
theorem wrap_u (r : BitVec 32) : IntKind.u32.wrap (u r) = u r := by
  have := u_fits r
  rw [IntKind.wrap_u32]; omega
theorem bxor (a b : BitVec 32) : bits .xor .u32 (u a) (u b) = u (a ^^^ b) := by
  show IntKind.u32.wrap ((BitVec.ofInt 32 (u a) ^^^ BitVec.ofInt 32 (u b)).toNat : Int) = _
  rw [ofInt_u, ofInt_u]
  exact wrap_u _
theorem band (a b : BitVec 32) : bits .and .u32 (u a) (u b) = u (a &&& b) := by
  show IntKind.u32.wrap ((BitVec.ofInt 32 (u a) &&& BitVec.ofInt 32 (u b)).toNat : Int) = _
  rw [ofInt_u, ofInt_u]
  exact wrap_u _
theorem half (r : BitVec 32) : u r / (2 : Int) = u (r >>> (1 : Nat)) := by
  unfold u
  rw [BitVec.toNat_ushiftRight, Nat.shiftRight_eq_div_pow]
  omega
theorem low_bit (r : BitVec 32) : r.getLsbD 0 = decide (u r % 2 = 1) := by
  show r.toNat.testBit 0 = _
  rw [Nat.testBit_zero, decide_eq_decide]
  unfold u; omega
theorem step_odd (r : BitVec 32) (h : u r % 2 = 1) : step r = (r >>> 1) ^^^ 0xedb88320#32 := by
  unfold step; rw [low_bit, h]; simp
theorem step_even (r : BitVec 32) (h : ¬ u r % 2 = 1) : step r = r >>> 1 := by
  unfold step; rw [low_bit]; simp [h]
theorem and1 (r : BitVec 32) : bits BinOp.and IntKind.u32 (u r) 1 = u r % 2 := by
  have lt := u_fits r
  rw [u32_and _ _ (by omega) (by omega) (by decide) (by decide)]
  show (((u r).toNat &&& 1 : Nat) : Int) = _
  rw [nat_mask1]; omega
theorem step_code (r : BitVec 32) : bits BinOp.xor IntKind.u32 (u r / 2) (bits BinOp.and IntKind.u32 3988292384 (-bits BinOp.and IntKind.u32 (u r) 1 % 4294967296)) = u (step r) := by
  have lt := u_fits r
  have e2 : (3988292384 : Int) = u (0xedb88320#32) := by decide
  rw [and1, half]
  by_cases h : u r % 2 = 1
  · rw [h, step_odd r h]
    have e1 : -(1 : Int) % 4294967296 = u (0xffffffff#32) := by decide
    rw [e1, e2, band, bxor]
    rfl
  · have h0 : u r % 2 = 0 := by omega
    rw [h0, step_even r h]
    have e1 : -(0 : Int) % 4294967296 = u (0#32) := by decide
    rw [e1, e2, band, bxor]
    simp
theorem not_code (r : BitVec 32) : bits .xor .u32 IntKind.u32.max (u r) = u (~~~ r) := by
  have e1 : IntKind.u32.max = u (0xffffffff#32) := by decide
  rw [e1, bxor, ← BitVec.allOnes_xor]
  rfl
theorem not_sub (r : BitVec 32) : 4294967295 - u r = u (~~~ r) := by
  have lt := r.isLt
  unfold u
  rw [BitVec.toNat_not]
  omega

theorem step_any (r : BitVec 32) (w : World) : Calls Try.prog 74 #[.int .u32 (u r)] w fun e w' => e = .returned (.int .u32 (u (step r))) ∧ w' = w := by
  have lt := u_fits r
  have HC := step_code r
  have H : Hid (bits BinOp.xor IntKind.u32 (u r / 2) (bits BinOp.and IntKind.u32 3988292384 (-bits BinOp.and IntKind.u32 (u r) 1 % 4294967296)) = u (step r)) := HC
  clear HC
  go_enter Try.func74, Try.ntmps74
  go_wp2
  go_ret
  exact ⟨ret_int H.out, rfl⟩
theorem turned_any (r : BitVec 32) (w : World) : Calls Try.prog 75 #[.int .u32 (u r)] w fun e w' => e = .returned (.int .u32 (u (step r))) ∧ w' = w := by
  have lt := u_fits r
  by_cases h : u r % 2 = 1
  · have t : ((u r % 2) == 1) = true := by simp [h]
    have HV : Hid (bits BinOp.xor IntKind.u32 (u r / 2) 3988292384 = u (step r)) := by
      show _ = _
      have e2 : (3988292384 : Int) = u (0xedb88320#32) := by decide
      rw [half, e2, bxor, step_odd r h]
    clear h
    go_enter Try.func75, Try.ntmps75
    go_wp2
    go_ret
    exact ⟨ret_int HV.out, rfl⟩
  · have t : ((u r % 2) == 1) = false := by simp [h]
    have HV : Hid (u r / 2 = u (step r)) := by
      show _ = _
      rw [half, step_even r h]
    clear h
    go_enter Try.func75, Try.ntmps75
    go_wp2
    go_ret
    exact ⟨ret_int HV.out, rfl⟩

/-- The byte at a place, as a register. -/
def bAt (s : ByteArray) (i : Nat) : BitVec 32 := if h : i < s.size then BitVec.ofNat 32 (s[i]'h).toNat else 0#32
theorem bAt_in (s : ByteArray) (i : Nat) (h : i < s.size) : ((s[i]'h).toNat : Int) % 4294967296 = u (bAt s i) := by
  have := (s[i]'h).toNat_lt
  unfold bAt u
  rw [dif_pos h, BitVec.toNat_ofNat]
  omega
/-- How a sum goes on over a text. -/
def more (r : BitVec 32) (s : ByteArray) : BitVec 32 := ~~~ (run (bAt s) s.size (~~~ r))

theorem more_any (r : BitVec 32) (s : ByteArray) (w : World) (hs : s.size ≤ maxLen) : Calls Try.prog 71 #[.int .u32 (u r), .string s] w fun e w' => e = .returned (.int .u32 (u (more r s))) ∧ w' = w := by
  unfold maxLen at hs
  have n1 := not_code r
  go_enter Try.func71, Try.ntmps71
  go_wp2
  go_loop [5, 11] (fun g i => ∃ (k : Nat) (q : BitVec 32), k ≤ s.size ∧ i = .int .i64 k ∧ g = .int .u32 (u q) ∧ Hid (q = run (bAt s) k (~~~ r))) (fun _ i => s.size - (intOf i).toNat)
  case atStart => exact ⟨0, ~~~ r, Nat.zero_le _, rfl, rfl, rfl⟩
  case round =>
    obtain ⟨k, q, hk, rfl, rfl, HQ⟩ := hrel
    by_cases hlt : k < s.size
    · have hx := bxor q (bAt s k)
      rw [← bAt_in s k hlt] at hx
      have hlt' : (k : Int) < (s.size : Int) := by omega
      go_wp2
      go_loop [5, 20] (fun g i => ∃ j : Nat, j ≤ 8 ∧ i = .int .i64 j ∧ g = .int .u32 (u (steps j (q ^^^ bAt s k)))) (fun _ i => 8 - (intOf i).toNat)
      case atStart => exact ⟨0, by omega, rfl, rfl⟩
      case round =>
        obtain ⟨j, hj, rfl, rfl⟩ := hrel
        by_cases hl8 : j < 8
        · have hl8' : (j : Int) < 8 := by omega
          go_wp2_with (go_at_call 74; refine (step_any _ _).mono ?_; rintro e w' ⟨rfl, rfl⟩)
          go_round
          case rel => exact ⟨j + 1, by omega, by go_num, rfl⟩
          case measure => simp [intOf]; omega
        · have e : j = 8 := by omega
          subst e
          go_wp2
          go_round
          case rel => exact ⟨k + 1, _, by omega, by go_num, rfl, (show _ = _ by rw [run, HQ.out])⟩
          case measure => simp [intOf]; omega
    · have e : k = s.size := by omega
      subst e
      have n2 := not_code q
      have HM : Hid (u (~~~ q) = u (more r s)) := by show _ = _; rw [HQ.out]; rfl
      go_wp2
      go_ret
      exact ⟨ret_int HM.out, rfl⟩
theorem rmore_any (r : BitVec 32) (s : ByteArray) (w : World) (hs : s.size ≤ maxLen) : Calls Try.prog 72 #[.int .u32 (u r), .string s] w fun e w' => e = .returned (.int .u32 (u (more r s))) ∧ w' = w := by
  unfold maxLen at hs
  have n1 := not_sub r
  have lt := u_fits r
  go_enter Try.func72, Try.ntmps72
  go_wp2
  go_loop [5, 6] (fun g i => ∃ (k : Nat) (q : BitVec 32), k ≤ s.size ∧ i = .int .i64 k ∧ g = .int .u32 (u q) ∧ Hid (q = run (bAt s) k (~~~ r))) (fun _ i => s.size - (intOf i).toNat)
  case atStart => exact ⟨0, ~~~ r, Nat.zero_le _, rfl, by first | rfl | rw [n1], rfl⟩
  case round =>
    obtain ⟨k, q, hk, rfl, rfl, HQ⟩ := hrel
    by_cases hlt : k < s.size
    · have hx := bxor q (bAt s k)
      rw [← bAt_in s k hlt] at hx
      have hlt' : (k : Int) < (s.size : Int) := by omega
      go_wp2
      go_loop [5, 7] (fun g i => ∃ j : Nat, j ≤ 8 ∧ i = .int .i64 j ∧ g = .int .u32 (u (steps j (q ^^^ bAt s k)))) (fun _ i => 8 - (intOf i).toNat)
      case atStart => exact ⟨0, by omega, rfl, rfl⟩
      case round =>
        obtain ⟨j, hj, rfl, rfl⟩ := hrel
        by_cases hl8 : j < 8
        · have hl8' : (j : Int) < 8 := by omega
          go_wp2_with (go_at_call 75; refine (turned_any _ _).mono ?_; rintro e w' ⟨rfl, rfl⟩)
          go_round
          case rel => exact ⟨j + 1, by omega, by go_num, rfl⟩
          case measure => simp [intOf]; omega
        · have e : j = 8 := by omega
          subst e
          go_wp2
          go_round
          case rel => exact ⟨k + 1, _, by omega, by go_num, rfl, (show _ = _ by rw [run, HQ.out])⟩
          case measure => simp [intOf]; omega
    · have e : k = s.size := by omega
      subst e
      have n2 := not_sub q
      have ltq := u_fits q
      have HM : Hid (u (~~~ q) = u (more r s)) := by show _ = _; rw [HQ.out]; rfl
      go_wp2
      go_ret
      exact ⟨ret_int HM.out, rfl⟩
theorem u_zero : u 0#32 = 0 := rfl
theorem sum_any (s : ByteArray) (w : World) (hs : s.size ≤ maxLen) : Calls Try.prog 64 #[.string s] w fun e w' => e = .returned (.int .u32 (u (more 0#32 s))) ∧ w' = w := by
  go_enter Try.func64, Try.ntmps64
  go_wp2_with (go_at_call 71; refine (more_any 0#32 s _ hs).mono ?_; rintro e w' ⟨rfl, rfl⟩)
  go_ret
  exact ⟨rfl, rfl⟩
theorem rsum_any (s : ByteArray) (w : World) (hs : s.size ≤ maxLen) : Calls Try.prog 65 #[.string s] w fun e w' => e = .returned (.int .u32 (u (more 0#32 s))) ∧ w' = w := by
  go_enter Try.func65, Try.ntmps65
  go_wp2_with (go_at_call 72; refine (rmore_any 0#32 s _ hs).mono ?_; rintro e w' ⟨rfl, rfl⟩)
  go_ret
  exact ⟨rfl, rfl⟩
end Go.Proofs.Ytihjapfgllokgab
