/-
  Proved here: places.add takes the places in, places.run counts the places that are there without a gap.
-/
import Derived.Test.YtmnbfcmamhinbabDar
namespace Go.Proofs.Ytmnbfcmamhinbab.Dl
open Go.ChangeShapes Go.WideShapes Go.ChangeAt Go.RowKit
set_option linter.unusedVariables false
set_option linter.unusedSimpArgs false
set_option maxRecDepth 20000

/-- One block is turned, all others are as they were. -/
structure Turned (g : Nat) (w w' : World) : Prop where
  os : w'.os = w.os
  tape : w'.tape = w.tape
  output : w'.output = w.output
  size : w'.heap.size = w.heap.size
  other : ∀ k, k ≠ g → w'.heap[k]? = w.heap[k]?
theorem Turned.refl (g : Nat) (w : World) : Turned g w w := ⟨rfl, rfl, rfl, rfl, fun _ _ => rfl⟩
theorem Turned.trans {g : Nat} {a b c : World} (h : Turned g a b) (k : Turned g b c) : Turned g a c :=
  ⟨k.os.trans h.os, k.tape.trans h.tape, k.output.trans h.output, k.size.trans h.size, fun i hi => (k.other i hi).trans (h.other i hi)⟩
theorem Turned.setCell {g : Nat} {a w : World} (h : Turned g a w) (j : Nat) (v : Value) : Turned g a (w.setCell ⟨g, j, none⟩ v) :=
  h.trans ⟨rfl, rfl, rfl, by simp [World.setCell], fun k hk => Below.heap_setCell w _ v k hk⟩
theorem Turned.setRow {g : Nat} {a w : World} (h : Turned g a w) (cs : Array Value) : Turned g a (w.setRow g cs) :=
  h.trans ⟨rfl, rfl, rfl, by simp, fun k hk => setRow_other w g k cs hk⟩
theorem Turned.drew {g : Nat} {a w : World} (h : Turned g a w) : Turned g a w.drew := ⟨h.os, h.tape, h.output, h.size, h.other⟩
theorem Turned.below {g B : Nat} {a w : World} (h : Turned g a w) (hB : B ≤ g) : Below B a w :=
  ⟨h.os, h.tape, h.output, Nat.le_of_eq h.size.symm, fun k hk => h.other k (by omega)⟩
theorem Row.turned {g k : Nat} {w w' : World} {cs : Array Value} {t : TypeId} (h : Row w k cs t) (ht : Turned g w w') (hk : k ≠ g) : Row w' k cs t := by
  unfold Row at h ⊢; rw [ht.other k hk]; exact h

/-- Places with n more of them, from a on. -/
def addP (H : List Bool) (a n : Nat) : List Bool := bf 64 fun j => H.getD j false || (decide (a ≤ j) && decide (j < a + n))
theorem addP_length (H : List Bool) (a n : Nat) : (addP H a n).length = 64 := bf_length _ _
theorem addP_zero (H : List Bool) (a : Nat) (hl : H.length = 64) : addP H a 0 = H := by
  symm; apply eq_bf _ _ _ hl
  intro j hj
  have : (decide (a ≤ j) && decide (j < a + 0)) = false := by simp
  rw [this, Bool.or_false]
theorem addP_step (H : List Bool) (a k : Nat) : (addP H a k).set (a + k) true = addP H a (k + 1) := by
  unfold addP
  rw [set_bf]
  apply bf_congr
  intro j hj
  by_cases e : j = a + k
  · rw [if_pos e]
    have : (decide (a ≤ j) && decide (j < a + (k + 1))) = true := by simp; omega
    rw [this, Bool.or_true]
  · rw [if_neg e]
    congr 1
    have : decide (j < a + k) = decide (j < a + (k + 1)) ∨ ¬ a ≤ j := by
      by_cases h : a ≤ j
      · left; congr 1; apply propext; omega
      · right; exact h
    rcases this with h | h
    · rw [h]
    · simp [h]

theorem add_any (g : Nat) (H : List Bool) (hl : H.length = 64) (a n : Nat) (h : a + n ≤ 64) (w : World) (r : Row w g (bl H) 84) :
    Calls Try.prog 37 #[.pointer (some ⟨g, 0, none⟩), .int .i64 a, .int .i64 n] w fun e w' => e = .returned (.tuple #[]) ∧ Row w' g (bl (addP H a n)) 84 ∧ Turned g w w' := by
  go_enter Try.func37, Try.ntmps37
  go_wp2
  go_loopw [8] (fun i wr => ∃ k : Nat, k ≤ n ∧ i = .int .i64 k ∧ Row wr g (bl (addP H a k)) 84 ∧ Turned g w wr) (fun i _ => n - (intOf i).toNat)
  case atStart => exact ⟨0, by omega, rfl, by rw [addP_zero H a hl]; exact r, Turned.refl _ _⟩
  case round =>
    clear r
    obtain ⟨k, hk, rfl, r, ht⟩ := hrel
    by_cases hlt : k < n
    · have hc := brow_cell r (a + k) (by rw [addP_length]; omega)
      have hf := row_frozen r (a + k)
      have z := brow_setCell r (a + k) true
      rw [addP_step] at z
      have zt := ht.setCell (a + k) (.bool true)
      generalize (addP H a k).getD (a + k) false = y at hc
      go_wp2
      go_roundw
      case rel => exact ⟨k + 1, by omega, by go_num, z, zt⟩
      case measure => simp [intOf]; omega
    · have e : k = n := by omega
      subst e
      go_wp2
      first
        | (go_end0; exact ⟨rfl, r, ht⟩)
        | (refine bodyPost_ret (results_none rfl _ _ _) rfl ?_; exact ⟨rfl, r, ht⟩)
        | (go_ret; exact ⟨rfl, r, ht⟩)

/-- How many are true at a list's beginning. -/
def runL : List Bool → Nat
  | true :: l => runL l + 1
  | _ => 0
theorem runL_le : ∀ l : List Bool, runL l ≤ l.length
  | [] => by simp [runL]
  | true :: l => by have := runL_le l; simp [runL]; omega
  | false :: l => by simp [runL]
theorem runL_at : ∀ (l : List Bool) (j : Nat), j < runL l → l.getD j false = true
  | [], j, h => by simp [runL] at h
  | true :: l, 0, h => rfl
  | true :: l, j + 1, h => by simpa [List.getD] using runL_at l j (by simp [runL] at h; omega)
  | false :: l, j, h => by simp [runL] at h
theorem runL_end : ∀ l : List Bool, l.getD (runL l) false = false
  | [] => rfl
  | true :: l => by simpa [runL, List.getD] using runL_end l
  | false :: l => rfl
/-- How many places are there without a gap, from a on. -/
def runAt (H : List Bool) (a : Nat) : Nat := runL (H.drop a)
theorem drop_getD (H : List Bool) (a j : Nat) : (H.drop a).getD j false = H.getD (a + j) false := by simp [List.getD, List.getElem?_drop]
theorem runAt_le (H : List Bool) (a : Nat) (hl : H.length = 64) (ha : a ≤ 64) : a + runAt H a ≤ 64 := by
  have := runL_le (H.drop a)
  unfold runAt
  simp at this ⊢
  omega
theorem runAt_at (H : List Bool) (a j : Nat) (h : j < runAt H a) : H.getD (a + j) false = true := by
  rw [← drop_getD]; exact runL_at _ _ h
theorem runAt_end (H : List Bool) (a : Nat) : H.getD (a + runAt H a) false = false := by
  rw [← drop_getD]; exact runL_end _
theorem run_any (g : Nat) (H : List Bool) (hl : H.length = 64) (a : Nat) (ha : a ≤ 64) (w : World) (r : Row w g (bl H) 84) :
    Calls Try.prog 40 #[.pointer (some ⟨g, 0, none⟩), .int .i64 a] w fun e w' => e = .returned (.int .i64 (runAt H a)) ∧ w' = w := by
  have hle := runAt_le H a hl ha
  have HA : Hid (∀ j, j < runAt H a → H.getD (a + j) false = true) := runAt_at H a
  have HE : Hid (H.getD (a + runAt H a) false = false) := runAt_end H a
  obtain ⟨n, HN⟩ : ∃ n, Hid (runAt H a = n) := ⟨_, rfl⟩
  rw [HN.out] at hle HA HE ⊢
  go_enter Try.func40, Try.ntmps40
  go_wp2
  go_loop [5] (fun i => ∃ k : Nat, k ≤ n ∧ i = .int .i64 k) (fun i => n - (intOf i).toNat)
  case atStart => exact ⟨0, by omega, rfl⟩
  case round =>
    obtain ⟨k, hk, rfl⟩ := hrel
    by_cases hlt : k < n
    · have hc := brow_cell r (a + k) (by omega)
      rw [HA.out k hlt] at hc
      have h64 : (a : Int) + (k : Int) < 64 := by omega
      go_wp2
      go_round
      case rel => exact ⟨k + 1, by omega, by go_num⟩
      case measure => simp [intOf]; omega
    · have e : k = n := by omega
      subst e
      by_cases h64 : a + k < 64
      · have hc := brow_cell r (a + k) (by omega)
        rw [HE.out] at hc
        have h64' : (a : Int) + (k : Int) < 64 := by omega
        go_wp2
        go_ret
        exact ⟨rfl, rfl⟩
      · have h64' : ¬ (a : Int) + (k : Int) < 64 := by omega
        go_wp2
        go_ret
        exact ⟨rfl, rfl⟩
end Go.Proofs.Ytmnbfcmamhinbab.Dl
