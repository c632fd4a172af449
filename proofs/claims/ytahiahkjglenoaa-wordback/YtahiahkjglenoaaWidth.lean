/-
  Proved here: the document's answer for Put and Width (varveref01) and word.Width: the same lowest bytes, the same number of bytes.
-/
import Derived.Test.YtahiahkjglenoaaPut
import Derived.Test.YtahiahkjglenoaaLen
namespace Go.Proofs.Ytahiahkjglenoaa
open Go.ChangeShapes Go.WideShapes Go.ChangeAt Go.RowKit
set_option linter.unusedVariables false

theorem one_string (x : Int) (w : World) : (Go.convert 40 9 (.slice (some ⟨w.heap.size, 0, none⟩) 1 1)).run Try.prog (w.alloc (.cells #[.int .u8 x] 5)) = .ok (.string (strOfNums [x])) (w.alloc (.cells #[.int .u8 x] 5)) := by
  refine run_convert_bytes_arg (P := Try.prog) _ 40 5 Try.underlying40 Try.underlying5 w.heap.size 0 1 1 [x] rfl ?_ 9 Try.underlying9
  intro i hi
  have : i = 0 := by omega
  subst this
  rw [World.cell?_alloc_new]
  rfl

theorem strOfNums_append (a b : List Int) : strOfNums (a ++ b) = strOfNums a ++ strOfNums b := by
  apply ByteArray.ext
  simp [strOfNums]

theorem div_step (v : Int) (k : Nat) : v / 2 ^ (8 * k) / 256 = v / 2 ^ (8 * (k + 1)) := by
  rw [Int.ediv_ediv_of_nonneg (Int.pow_nonneg (by decide)), show 8 * (k + 1) = 8 * k + 8 by omega, Int.pow_add]
  rfl
theorem div_fits (v : Int) (k : Nat) (h0 : 0 ≤ v) (h1 : v ≤ 18446744073709551615) : 0 ≤ v / 2 ^ k ∧ v / 2 ^ k ≤ 18446744073709551615 := by
  have hp : (0 : Int) < 2 ^ k := Int.pow_pos (by decide)
  exact ⟨Int.ediv_nonneg h0 (Int.le_of_lt hp), Int.le_trans (Int.ediv_le_self _ h0) h1⟩

theorem rput_any (v : Int) (n : Nat) (w : World) (hv : 0 ≤ v) (hv' : v ≤ 18446744073709551615) (hn : n ≤ 8) :
    Calls Try.prog 10 #[.int .u64 v, .int .i64 n] w fun e w' => e = .returned (.string (strOfNums (low v n))) ∧ Grown w w' := by
  go_enter Try.func10, Try.ntmps10
  go_wp2
  go_loopw [0, 5, 6] (fun a s i wr => ∃ (k : Nat) (u : Int), k ≤ n ∧ i = .int .i64 k ∧ Hid (u = v / 2 ^ (8 * k)) ∧ a = .int .u64 u ∧ s = .string (strOfNums (low v k)) ∧ Grown w wr) (fun _ _ i _ => n - (intOf i).toNat)
  case atStart => exact ⟨0, v, Nat.zero_le _, rfl, by show v = _; simp, rfl, rfl, Grown.refl _⟩
  case round =>
    obtain ⟨k, u, hk, rfl, HU, rfl, rfl, hg⟩ := hrel
    by_cases hlt : k < n
    · have hs := one_string (u % 256) wr
      have hb : 0 ≤ u ∧ u ≤ 18446744073709551615 := by rw [HU.out]; exact div_fits v _ hv hv'
      have hz : (strOfNums (low v k)).size ≤ 8 := by rw [strOfNums_size, low_length]; omega
      have hz1 : (strOfNums [u % 256]).size = 1 := rfl
      have G := hg.alloc #[.int .u8 (u % 256)] 5
      go_wp2
      go_roundw
      case rel => exact ⟨k + 1, u / 256, by omega, by go_num, (show u / 256 = _ by rw [HU.out, div_step]), rfl, by rw [low_succ, strOfNums_append, HU.out], G⟩
      case measure => simp [intOf]; omega
    · have e : k = n := by omega
      subst e
      go_wp2
      go_ret
      exact ⟨rfl, hg⟩
theorem rput_none (v n : Int) (w : World) (hn : n < 0 ∨ 8 < n) :
    Calls Try.prog 10 #[.int .u64 v, .int .i64 n] w fun e w' => e = .returned (.string ⟨#[]⟩) ∧ w' = w := by
  rcases hn with hn | hn
  · go_enter Try.func10, Try.ntmps10
    go_wp2
    go_ret
    exact ⟨rfl, rfl⟩
  · have h0 : ¬ n < 0 := by omega
    go_enter Try.func10, Try.ntmps10
    go_wp2
    go_ret
    exact ⟨rfl, rfl⟩

theorem bitLen_top : ∀ (f x : Nat), Lib.bitLenAux f x ≤ f
  | 0, _ => Nat.le_refl _
  | f + 1, x => by
    unfold Lib.bitLenAux
    split
    · omega
    · have := bitLen_top f (x / 2); omega
theorem blen_top (v : Int) (h0 : 0 ≤ v) (h1 : v ≤ 18446744073709551615) : 0 ≤ blen v ∧ blen v ≤ 64 := by
  have : Lib.bitLen v.toNat ≤ 64 := bitLen_top 64 v.toNat
  unfold blen; omega
/-- How many bytes a number takes. -/
def wid (v : Int) : Int := (blen v + 7) / 8

theorem blen_zero : blen 0 = 0 := rfl
theorem blen_bounds (v : Int) (h0 : 0 ≤ v) (h1 : v ≤ 18446744073709551615) : 0 ≤ blen v ∧ blen v ≤ 64 ∧ (0 < v → 1 ≤ blen v) := by
  by_cases hz : v = 0
  · subst hz; rw [blen_zero]; omega
  · have hp : 0 < blen v := by
      have := Lib.bitLen_half v.toNat (by omega) (by omega)
      unfold blen; omega
    have := blen_top v h0 h1
    omega
theorem width_any (v : Int) (w : World) (hv : 0 ≤ v) (hv' : v ≤ 18446744073709551615) :
    Calls Try.prog 11 #[.int .u64 v] w fun e w' => e = .returned (.int .i64 (wid v)) ∧ w' = w := by
  have hb := blen_bounds v hv hv'
  go_enter Try.func11, Try.ntmps11
  go_wp2_with (go_at_call 23; refine (len_any _ _ hv hv').mono ?_; rintro e w' ⟨rfl, rfl⟩)
  go_ret
  exact ⟨ret_int rfl, rfl⟩
theorem wid_zero : wid 0 = 0 := rfl
theorem wid_step (v : Int) (h0 : 0 < v) (h1 : v ≤ 18446744073709551615) : wid v = 1 + wid (v / 256) := by
  unfold wid
  by_cases h : v < 256
  · have e : v / 256 = 0 := by omega
    have t := blen_small v (by omega) (by omega)
    have b := blen_bounds v (by omega) (by omega)
    rw [e, blen_zero]
    omega
  · have s := blen_shift v 8 (v / 256) (by omega) (by omega) (by omega) h1
    omega
theorem wid_le (v : Int) (h0 : 0 ≤ v) (h1 : v ≤ 18446744073709551615) : 0 ≤ wid v ∧ wid v ≤ 8 := by
  have := blen_bounds v h0 h1
  unfold wid
  omega
theorem rwidth_any (v : Int) (w : World) (hv : 0 ≤ v) (hv' : v ≤ 18446744073709551615) :
    Calls Try.prog 12 #[.int .u64 v] w fun e w' => e = .returned (.int .i64 (wid v)) ∧ w' = w := by
  have hl := wid_le v hv hv'
  go_enter Try.func12, Try.ntmps12
  go_wp2
  go_loop [0, 3] (fun a i => ∃ (k u : Int), 0 ≤ k ∧ 0 ≤ u ∧ u ≤ 18446744073709551615 ∧ a = .int .u64 u ∧ i = .int .i64 k ∧ Hid (k + wid u = wid v)) (fun a _ => (intOf a).toNat)
  case atStart => exact ⟨0, v, Int.le_refl _, hv, hv', rfl, rfl, by show _ = _; simp⟩
  case round =>
    obtain ⟨k, u, hk, hu, hu', rfl, rfl, HU⟩ := hrel
    have hw := wid_le u hu hu'
    have hk8 : k ≤ 8 := by have := HU.out; omega
    by_cases hp : 0 < u
    · have hs := wid_step u hp hu'
      have HS : Hid (wid u = 1 + wid (u / 256)) := hs
      clear hs hw hl
      go_wp2
      go_round
      case rel => exact ⟨k + 1, u / 256, by omega, by omega, by omega, rfl, rfl, (show _ = _ by have := HU.out; have := HS.out; omega)⟩
      case measure => simp [intOf]; omega
    · have e : u = 0 := by omega
      subst e
      clear hw hl
      go_wp2
      go_ret
      exact ⟨ret_int (by have := HU.out; rw [wid_zero] at this; omega), rfl⟩
end Go.Proofs.Ytahiahkjglenoaa
