/-
  Plain facts: when the groups that stand at a place are those of a number, and how far the document's loop over lengths has come.
-/
import Derived.Test.YtahiahkjglenoaaTake
namespace Go.Proofs.Ytahiahkjglenoaa
open Go.ChangeShapes Go.WideShapes Go.ChangeAt Go.RowKit
set_option linter.unusedVariables false
set_option linter.unusedSimpArgs false

/-- The n bytes from place a on, as numbers. -/
def bytesL (s : ByteArray) (a n : Nat) : List Int := (List.range n).map fun j => byteAt s (a + j)
theorem bytesL_length (s : ByteArray) (a n : Nat) : (bytesL s a n).length = n := by simp [bytesL]
theorem bytesL_cons (s : ByteArray) (a n : Nat) : bytesL s a (n + 1) = byteAt s a :: bytesL s (a + 1) n := by
  unfold bytesL
  rw [List.range_succ_eq_map]
  simp only [List.map_cons, List.map_map, Nat.add_zero]
  congr 1
  apply List.map_congr_left
  intro j _
  simp only [Function.comp, Nat.succ_eq_add_one]
  congr 1
  omega
theorem bytesL_at (s : ByteArray) (a n j : Nat) (h : j < n) : (bytesL s a n)[j]? = some (byteAt s (a + j)) := by
  simp [bytesL, h]
theorem extract_str (s : ByteArray) (a n : Nat) (h : a + n ≤ s.size) : s.extract a (a + n) = strOfNums (bytesL s a n) := by
  apply ByteArray.ext
  apply Array.ext
  · simp [strOfNums, bytesL, ByteArray.data_extract]
    have : s.size = s.data.size := rfl
    omega
  · intro i h1 h2
    have hi : i < n := by simpa [strOfNums, bytesL] using h2
    have hs : a + i < s.size := by omega
    simp only [strOfNums, bytesL, ByteArray.data_extract, Array.getElem_extract, List.getElem_toArray, List.getElem_map, List.getElem_range]
    rw [byteAt_in s (a + i) hs]
    simp
    rfl
theorem str_inj : ∀ (xs ys : List Int), (∀ x ∈ xs, 0 ≤ x ∧ x ≤ 255) → (∀ y ∈ ys, 0 ≤ y ∧ y ≤ 255) → strOfNums xs = strOfNums ys → xs = ys := by
  intro xs ys hx hy h
  have h1 : xs.map (fun n => UInt8.ofNat n.toNat) = ys.map (fun n => UInt8.ofNat n.toNat) := by
    have := congrArg (fun b : ByteArray => b.data.toList) h
    simpa [strOfNums] using this
  clear h
  induction xs generalizing ys with
  | nil => cases ys with
    | nil => rfl
    | cons y ys => simp at h1
  | cons x xs ih => cases ys with
    | nil => simp at h1
    | cons y ys =>
      simp only [List.map_cons, List.cons.injEq] at h1
      have e := congrArg UInt8.toNat h1.1
      have bx := hx x (by simp)
      have bY := hy y (by simp)
      simp only [UInt8.toNat_ofNat'] at e
      have : x = y := by omega
      rw [this, ih ys (fun z hz => hx z (by simp [hz])) (fun z hz => hy z (by simp [hz])) h1.2]
theorem grp_range (v : Int) (m : Nat) : ∀ x ∈ grp v m, 0 ≤ x ∧ x ≤ 255 := by
  intro x hx
  simp only [grp, List.mem_append, List.mem_map, List.mem_singleton] at hx
  rcases hx with ⟨j, _, rfl⟩ | rfl
  · unfold gmore; omega
  · unfold glast; omega
theorem bytesL_range (s : ByteArray) (a n : Nat) : ∀ x ∈ bytesL s a n, 0 ≤ x ∧ x ≤ 255 := by
  intro x hx
  simp only [bytesL, List.mem_map] at hx
  obtain ⟨j, _, rfl⟩ := hx
  exact byteAt_fits s _

theorem val_cons (s : ByteArray) (a : Nat) : ∀ n, val s a (n + 1) = byteAt s a % 128 + 128 * val s (a + 1) n
  | 0 => by simp [val]
  | n + 1 => by
    rw [val, val_cons s a n, val, pow7_succ, show a + (n + 1) = a + 1 + n by omega]
    rw [Int.mul_add, ← Int.mul_assoc, Int.mul_comm (byteAt s (a + 1 + n) % 128) 128, Int.mul_assoc, Int.add_assoc]
theorem val_pos (s : ByteArray) (a k : Nat) (h : byteAt s (a + k) % 128 ≠ 0) : 0 < val s a (k + 1) := by
  have f := val_fits s a k
  have hp : (0 : Int) < 2 ^ (7 * k) := Int.pow_pos (by decide)
  have : 0 < byteAt s (a + k) % 128 * 2 ^ (7 * k) := Int.mul_pos (by omega) hp
  rw [val]; omega
theorem grp_val (s : ByteArray) : ∀ (k a : Nat), (∀ j, j < k → 128 ≤ byteAt s (a + j)) → byteAt s (a + k) < 128 → grp (val s a (k + 1)) k = bytesL s a (k + 1)
  | 0, a, _, h => by
    have b := byteAt_fits s a
    rw [Nat.add_zero] at h
    have e : val s a 1 = byteAt s a := by simp [val]; omega
    rw [e, grp_zero _ b.1 h]
    simp [bytesL]
  | k + 1, a, hm, h => by
    have b := byteAt_fits s a
    have h0 := hm 0 (by omega)
    rw [Nat.add_zero] at h0
    rw [val_cons, grp_succ, bytesL_cons]
    have e1 : (byteAt s a % 128 + 128 * val s (a + 1) (k + 1)) % 128 = byteAt s a % 128 := by omega
    have e2 : (byteAt s a % 128 + 128 * val s (a + 1) (k + 1)) / 128 = val s (a + 1) (k + 1) := by omega
    rw [e1, e2, grp_val s k (a + 1) (fun j hj => by have := hm (j + 1) (by omega); rw [show a + 1 + j = a + (j + 1) by omega]; exact this) (by rw [show a + 1 + k = a + (k + 1) by omega]; exact h)]
    congr 1
    omega
theorem ng_val (s : ByteArray) : ∀ (k a : Nat), byteAt s (a + k) < 128 → (k = 0 ∨ byteAt s (a + k) ≠ 0) → val s a (k + 1) ≤ 18446744073709551615 → ng (val s a (k + 1)) = (k : Int) + 1
  | 0, a, h, _, _ => by
    have b := byteAt_fits s a
    rw [Nat.add_zero] at h
    have e : val s a 1 = byteAt s a := by simp [val]; omega
    rw [e, ng_small _ b.1 h]; rfl
  | k + 1, a, h, hz, hv => by
    have b := byteAt_fits s (a + (k + 1))
    have hz' : byteAt s (a + 1 + k) ≠ 0 := by rw [show a + 1 + k = a + (k + 1) by omega]; omega
    have h' : byteAt s (a + 1 + k) < 128 := by rw [show a + 1 + k = a + (k + 1) by omega]; exact h
    have b' := byteAt_fits s (a + 1 + k)
    have p := val_pos s (a + 1) k (by omega)
    rw [val_cons] at hv ⊢
    have e2 : (byteAt s a % 128 + 128 * val s (a + 1) (k + 1)) / 128 = val s (a + 1) (k + 1) := by omega
    rw [ng_step _ (by omega) hv, e2, ng_val s k (a + 1) h' (Or.inr hz') (by omega)]
    omega
theorem ng_lower : ∀ (k : Nat) (u : Int), 0 ≤ u → u ≤ 18446744073709551615 → ng u = (k : Int) + 1 → (0 < k → 2 ^ (7 * k) ≤ u) ∧ u < 2 ^ (7 * (k + 1))
  | 0, u, h0, h1, h => by
    have := ng_one u h0 h1 h
    exact ⟨fun q => by omega, by simpa using this⟩
  | k + 1, u, h0, h1, h => by
    obtain ⟨hl, hn⟩ := ng_more u k h0 h1 (by simpa using h)
    have ih := ng_lower k (u / 128) (by omega) (by omega) hn
    rw [pow7_succ (k + 1)]
    refine ⟨fun _ => ?_, by omega⟩
    by_cases hk : 0 < k
    · have := ih.1 hk
      rw [pow7_succ]; omega
    · have : k = 0 := by omega
      subst this
      simpa using hl
theorem glast_top (u : Int) (k : Nat) (h0 : 0 ≤ u) (h1 : u ≤ 18446744073709551615) (h : ng u = (k : Int) + 1) : (0 < k → glast u k ≠ 0) ∧ (k = 9 → glast u k ≤ 1) := by
  have l := ng_lower k u h0 h1 h
  have hp : (0 : Int) < 2 ^ (7 * k) := Int.pow_pos (by decide)
  have lt : u / 2 ^ (7 * k) < 128 := Int.ediv_lt_of_lt_mul hp (by rw [pow7_succ] at l; exact l.2)
  refine ⟨fun hk => ?_, fun e => ?_⟩
  · have : 1 ≤ u / 2 ^ (7 * k) := Int.le_ediv_of_mul_le hp (by simpa using l.1 hk)
    unfold glast; omega
  · subst e
    unfold glast
    have : (2 : Int) ^ (7 * 9) = 9223372036854775808 := by decide
    rw [this] at lt ⊢
    omega

/-- How far the document's loop has come when it has tried the first k lengths in vain. -/
def St (s : ByteArray) (a k : Nat) : Prop :=
  ((∀ j, j < k → 128 ≤ byteAt s (a + j)) ∧ a + k ≤ s.size ∧ tk s a (10 - k) k = tk s a 10 0) ∨ (tk s a 10 0 = none ∧ ∃ j, j < k ∧ byteAt s (a + j) < 128)

theorem st_start (s : ByteArray) (a : Nat) (h : a ≤ s.size) : St s a 0 := Or.inl ⟨fun j hj => by omega, by omega, rfl⟩
theorem st_end (s : ByteArray) (a : Nat) (h : St s a 10) : tk s a 10 0 = none := by
  rcases h with ⟨_, _, h⟩ | ⟨h, _⟩
  · rw [← h]; rfl
  · exact h
theorem st_short (s : ByteArray) (a k : Nat) (hk : k < 10) (h : St s a k) (hs : s.size < a + (k + 1)) : tk s a 10 0 = none := by
  rcases h with ⟨_, _, h⟩ | ⟨h, _⟩
  · rw [← h, show 10 - k = 9 - k + 1 by omega, tk, if_pos (by omega)]
  · exact h
theorem st_match (s : ByteArray) (a k m : Nat) (u : Int) (hk : k < 10) (h : St s a k) (hs : a + k < s.size) (hu : u = val s a (k + 1) % 18446744073709551616)
    (hm : ng u = (m : Int) + 1) (M : strOfNums (grp u m) = s.extract a (a + (k + 1))) : tk s a 10 0 = some (u, a + k + 1) := by
  have u0 : 0 ≤ u ∧ u ≤ 18446744073709551615 := by omega
  rw [extract_str s a (k + 1) (by omega)] at M
  have L := str_inj _ _ (grp_range u m) (bytesL_range s a (k + 1)) M
  have e : m = k := by
    have := congrArg List.length L
    rw [grp_length, bytesL_length] at this; omega
  subst e
  have hj : ∀ j, j < m → byteAt s (a + j) = gmore u j := by
    intro j hj
    have := congrArg (fun l => l[j]?) L
    simp only [bytesL_at s a (m + 1) j (by omega)] at this
    simp [grp, List.getElem?_append, hj] at this
    exact this.symm
  have hl : byteAt s (a + m) = glast u m := by
    have := congrArg (fun l => l[m]?) L
    simp only [bytesL_at s a (m + 1) m (by omega)] at this
    simp [grp, List.getElem?_append] at this
    exact this.symm
  have top := glast_top u m u0.1 u0.2 hm
  have small : byteAt s (a + m) < 128 := by rw [hl]; unfold glast; omega
  rcases h with ⟨_, _, h⟩ | ⟨_, j, hj1, hj2⟩
  · have T := (tk_step s a (9 - m) m _ rfl hs).2.2.2 (fun e => by rw [hl]; exact top.2 e) small (fun z => by
      rcases Nat.eq_zero_or_pos m with q | q
      · exact q
      · rw [hl] at z; exact absurd z (top.1 q))
    have c := (val_code s a m (by omega) (fun e => by rw [hl]; exact top.2 e)).2
    have f := val_fits s a (m + 1)
    have : u = val s a (m + 1) := by omega
    rw [← h, show 10 - m = 9 - m + 1 by omega, T, this]
  · exfalso
    rw [hj j hj1] at hj2
    unfold gmore at hj2
    omega
theorem st_next (s : ByteArray) (a k m : Nat) (u : Int) (hk : k < 10) (h : St s a k) (hs : a + k < s.size) (hu : u = val s a (k + 1) % 18446744073709551616)
    (hm : ng u = (m : Int) + 1) (M : ¬ strOfNums (grp u m) = s.extract a (a + (k + 1))) : St s a (k + 1) := by
  rcases h with ⟨h1, h2, h3⟩ | ⟨h1, j, hj1, hj2⟩
  · have T := tk_step s a (9 - k) k _ rfl hs
    rw [show 9 - k + 1 = 10 - k by omega, h3] at T
    by_cases B : 128 ≤ byteAt s (a + k)
    · refine Or.inl ⟨fun j hj => ?_, by omega, ?_⟩
      · by_cases e : j = k
        · rw [e]; exact B
        · exact h1 j (by omega)
      · by_cases e : k = 9
        · rw [T.1 e (by omega)]
          subst e
          rfl
        · rw [T.2.1 e B, show 10 - (k + 1) = 9 - k by omega]
    · have b := byteAt_fits s (a + k)
      by_cases C : k = 9 ∧ 1 < byteAt s (a + k)
      · exact Or.inr ⟨T.1 C.1 C.2, k, by omega, by omega⟩
      · by_cases D : byteAt s (a + k) = 0 ∧ 0 < k
        · exact Or.inr ⟨T.2.2.1 D.1 D.2, k, by omega, by omega⟩
        · exfalso
          apply M
          have c := (val_code s a k (by omega) (fun e => by omega)).2
          have f := val_fits s a (k + 1)
          have e : u = val s a (k + 1) := by omega
          have n := ng_val s k a (by omega) (by omega) c
          have em : m = k := by rw [e, n] at hm; omega
          rw [extract_str s a (k + 1) (by omega), em, e, grp_val s k a h1 (by omega)]
  · exact Or.inr ⟨h1, j, by omega, hj2⟩
end Go.Proofs.Ytahiahkjglenoaa
