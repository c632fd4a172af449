/-
  Proved here: word.Width of a number is how many bytes it takes; word.Var has its groups of seven bits, the lowest first, all but the last one marked.
-/
import Derived.Test.YtahiahkjglenoabBase
import Derived.Test.YtahiahkjglenoabLen
namespace Go.Proofs.Ytahiahkjglenoab
open Go.ChangeShapes Go.WideShapes Go.ChangeAt Go.RowKit
set_option linter.unusedVariables false

theorem bitLen_top : ∀ (f x : Nat), Lib.bitLenAux f x ≤ f
  | 0, _ => Nat.le_refl _
  | f + 1, x => by
    unfold Lib.bitLenAux
    split
    · omega
    · have := bitLen_top f (x / 2); omega
theorem blen_top (v : Int) (h0 : 0 ≤ v) (h1 : v ≤ 18446744073709551615) : 0 ≤ blen v ∧ blen v ≤ 64 := by
  have : Lib.bitLen v.toNat ≤ 64 := bitLen_top 64 v.toNat
  unfold blen; omega
/-- How many bytes a number takes. -/
def wid (v : Int) : Int := (blen v + 7) / 8

theorem blen_zero : blen 0 = 0 := rfl
theorem blen_bounds (v : Int) (h0 : 0 ≤ v) (h1 : v ≤ 18446744073709551615) : 0 ≤ blen v ∧ blen v ≤ 64 ∧ (0 < v → 1 ≤ blen v) := by
  by_cases hz : v = 0
  · subst hz; rw [blen_zero]; omega
  · have hp : 0 < blen v := by
      have := Lib.bitLen_half v.toNat (by omega) (by omega)
      unfold blen; omega
    have := blen_top v h0 h1
    omega
theorem width_any (v : Int) (w : World) (hv : 0 ≤ v) (hv' : v ≤ 18446744073709551615) :
    Calls Try.prog 10 #[.int .u64 v] w fun e w' => e = .returned (.int .i64 (wid v)) ∧ w' = w := by
  have hb := blen_bounds v hv hv'
  go_enter Try.func10, Try.ntmps10
  go_wp2_with (go_at_call 19; refine (len_any _ _ hv hv').mono ?_; rintro e w' ⟨rfl, rfl⟩)
  go_ret
  exact ⟨ret_int rfl, rfl⟩
theorem wid_zero : wid 0 = 0 := rfl
theorem wid_step (v : Int) (h0 : 0 < v) (h1 : v ≤ 18446744073709551615) : wid v = 1 + wid (v / 256) := by
  unfold wid
  by_cases h : v < 256
  · have e : v / 256 = 0 := by omega
    have t := blen_small v (by omega) (by omega)
    have b := blen_bounds v (by omega) (by omega)
    rw [e, blen_zero]
    omega
  · have s := blen_shift v 8 (v / 256) (by omega) (by omega) (by omega) h1
    omega
theorem wid_le (v : Int) (h0 : 0 ≤ v) (h1 : v ≤ 18446744073709551615) : 0 ≤ wid v ∧ wid v ≤ 8 := by
  have := blen_bounds v h0 h1
  unfold wid
  omega
theorem or_high (x y : Int) (i : Nat) (hx : 0 ≤ x) (hx' : x < 2 ^ i) (hy : 0 ≤ y) (hm : y % 2 ^ i = 0) (hy' : y < 18446744073709551616) (h2 : (2 : Int) ^ i ≤ 18446744073709551616) : bits .or .u64 x y = x + y := by
  obtain ⟨a, rfl⟩ := Int.eq_ofNat_of_zero_le hx
  obtain ⟨b, rfl⟩ := Int.eq_ofNat_of_zero_le hy
  have ea : a < 2 ^ i := by exact_mod_cast hx'
  have eb : b % 2 ^ i = 0 := by exact_mod_cast hm
  rw [u64_or_nat a b (by omega) (by omega), Nat.or_comm, nat_join i b a eb ea]
  simp [Int.add_comm]
/-- A number with its lowest bit set. -/
def or1 (v : Int) : Int := v + 1 - v % 2
theorem or1_code (v : Int) (h0 : 0 ≤ v) (h1 : v ≤ 18446744073709551615) : bits .or .u64 v 1 = or1 v := by
  have e := or_high 1 (v - v % 2) 1 (by decide) (by decide) (by omega) (by omega) (by omega) (by decide)
  obtain ⟨n, rfl⟩ := Int.eq_ofNat_of_zero_le h0
  unfold or1
  by_cases hz : (n : Int) % 2 = 1
  · rw [show (1 : Int) = ((1 : Nat) : Int) from rfl, u64_or_nat n 1 (by omega) (by decide)]
    have : n ||| 1 = n := by
      have h := nat_join 1 (n - 1) 1 (by omega) (by decide)
      have h2 : (n - 1 + 1) ||| 1 = n ||| 1 := by rw [show n - 1 + 1 = n by omega]
      have h3 : n = (n - 1) ||| 1 := by rw [h]; omega
      rw [h3, Nat.or_assoc, Nat.or_self]
    omega
  · rw [show (1 : Int) = ((1 : Nat) : Int) from rfl, u64_or_nat n 1 (by omega) (by decide), nat_join 1 n 1 (by omega) (by decide)]
    omega
theorem blen_half (v : Int) (h0 : 0 < v) (h1 : v ≤ 18446744073709551615) : blen v = 1 + blen (v / 2) := by
  have e := Lib.bitLen_half v.toNat (by omega) (by omega)
  unfold blen
  have h2 : (v / 2).toNat = v.toNat / 2 := by omega
  rw [h2]
  omega
theorem blen_or1 (v : Int) (h0 : 0 < v) (h1 : v ≤ 18446744073709551615) : blen (or1 v) = blen v := by
  have hb : 0 < or1 v ∧ or1 v ≤ 18446744073709551615 ∧ or1 v / 2 = v / 2 := by unfold or1; omega
  rw [blen_half v h0 h1, blen_half (or1 v) hb.1 hb.2.1, hb.2.2]
/-- How many groups of seven bits a number takes. -/
def ng (v : Int) : Int := (blen (or1 v) + 6) / 7
theorem ng_small (v : Int) (h0 : 0 ≤ v) (h1 : v < 128) : ng v = 1 := by
  unfold ng
  have ho : 1 ≤ or1 v ∧ or1 v ≤ 127 := by unfold or1; omega
  have b := (blen_bounds (or1 v) (by omega) (by omega)).2.2 (by omega)
  have : blen (or1 v) ≤ 7 := by
    have h := blen_half (2 * or1 v) (by omega) (by omega)
    have e : 2 * or1 v / 2 = or1 v := by omega
    have t := blen_small (2 * or1 v) (by omega) (by omega)
    rw [e] at h; omega
  omega
theorem ng_step (v : Int) (h0 : 128 ≤ v) (h1 : v ≤ 18446744073709551615) : ng v = 1 + ng (v / 128) := by
  unfold ng
  have hb : 0 < or1 v ∧ or1 v ≤ 18446744073709551615 ∧ or1 v / 128 = v / 128 := by unfold or1; omega
  have s := blen_shift (or1 v) 7 (v / 128) (by omega) (by rw [← hb.2.2]; rfl) (by omega) hb.2.1
  rw [s, blen_or1 (v / 128) (by omega) (by omega)]
  omega
theorem ng_bounds (v : Int) (h0 : 0 ≤ v) (h1 : v ≤ 18446744073709551615) : 1 ≤ ng v ∧ ng v ≤ 10 := by
  have ho : 1 ≤ or1 v ∧ or1 v ≤ 18446744073709551615 := by unfold or1; omega
  have b := blen_bounds (or1 v) (by omega) (by omega)
  have := b.2.2 (by omega)
  unfold ng; omega
theorem groups_any (v : Int) (w : World) (hv : 0 ≤ v) (hv' : v ≤ 18446744073709551615) :
    Calls Try.prog 18 #[.int .u64 v] w fun e w' => e = .returned (.int .i64 (ng v)) ∧ w' = w := by
  have he := or1_code v hv hv'
  have ho : 0 ≤ or1 v ∧ or1 v ≤ 18446744073709551615 := by unfold or1; omega
  have hb := blen_bounds (or1 v) ho.1 ho.2
  go_enter Try.func18, Try.ntmps18
  go_wp2_with (go_at_call 19; refine (len_any _ _ ho.1 ho.2).mono ?_; rintro e w' ⟨rfl, rfl⟩)
  go_ret
  exact ⟨ret_int rfl, rfl⟩

/-- The group at a place, with the mark that more follow. -/
def gmore (v : Int) (j : Nat) : Int := 128 + v / 2 ^ (7 * j) % 128
/-- The group at a place, as the last one. -/
def glast (v : Int) (j : Nat) : Int := v / 2 ^ (7 * j) % 128
/-- A number's first m groups with the mark, and the one behind them without. -/
def grp (v : Int) (m : Nat) : List Int := (List.range m).map (gmore v) ++ [glast v m]
theorem grp_length (v : Int) (m : Nat) : (grp v m).length = m + 1 := by simp [grp]

theorem gmore_code (v : Int) (j : Nat) : bits .or .u8 (v / 2 ^ (7 * j) % 256) 128 = gmore v j := by
  unfold gmore
  generalize v / 2 ^ (7 * j) = u
  have h0 : 0 ≤ u % 256 := by omega
  obtain ⟨n, hn⟩ := Int.eq_ofNat_of_zero_le h0
  have hn' : n < 256 := by omega
  rw [hn, show (128 : Int) = ((128 : Nat) : Int) from rfl, u8_or_nat n 128 hn' (by decide)]
  have all : ∀ k : Fin 256, k.val ||| 128 = 128 + k.val % 128 := by decide +kernel
  have := all ⟨n, hn'⟩
  simp only at this
  rw [this]
  omega
theorem glast_code (v : Int) (j : Nat) : bits .andNot .u8 (gmore v j) 128 = glast v j := by
  unfold gmore glast
  generalize v / 2 ^ (7 * j) = u
  have h0 : 0 ≤ u % 128 := by omega
  obtain ⟨n, hn⟩ := Int.eq_ofNat_of_zero_le h0
  have hn' : n < 128 := by omega
  rw [hn, show (128 : Int) + (n : Int) = ((128 + n : Nat) : Int) by omega, show (128 : Int) = ((128 : Nat) : Int) from rfl, u8_andNot_nat (128 + n) 128 (by omega) (by decide)]
  have all : ∀ k : Fin 128, (128 + k.val) &&& (255 - 128) = k.val := by decide +kernel
  have := all ⟨n, hn'⟩
  simp only at this
  rw [this]

/-- The array while the first k groups are laid. -/
def laid7 (v : Int) (B k : Nat) (wr : World) : Prop :=
  ∀ j, j < 10 → wr.cell? ⟨B, j, none⟩ = some (.int .u8 (if j < k then gmore v j else 0)) ∧ wr.frozen? ⟨B, j, none⟩ = false
theorem laid7_start (v : Int) (w : World) (t : TypeId) : laid7 v w.heap.size 0 (w.alloc (.cells #[.int .u8 0, .int .u8 0, .int .u8 0, .int .u8 0, .int .u8 0, .int .u8 0, .int .u8 0, .int .u8 0, .int .u8 0, .int .u8 0] t)) := by
  intro j hj
  refine ⟨?_, ?_⟩
  · rw [World.cell?_alloc_new]
    have : j = 0 ∨ j = 1 ∨ j = 2 ∨ j = 3 ∨ j = 4 ∨ j = 5 ∨ j = 6 ∨ j = 7 ∨ j = 8 ∨ j = 9 := by omega
    rcases this with rfl | rfl | rfl | rfl | rfl | rfl | rfl | rfl | rfl | rfl <;> simp
  · rw [frozen?_alloc_cells]
    simp [World.frozen?]
theorem laid7_step {v : Int} {B k : Nat} {wr : World} (h : laid7 v B k wr) (hk : k < 10) :
    laid7 v B (k + 1) (wr.setCell ⟨B, k, none⟩ (.int .u8 (gmore v k))) := by
  intro j hj
  refine ⟨?_, ?_⟩
  · by_cases e : j = k
    · subst e
      rw [World.cell?_setCell_same _ _ _ (h j hj).1, if_pos (by omega)]
    · rw [World.cell?_setCell_other _ _ _ _ (by intro q; injection q; omega), (h j hj).1]
      by_cases l : j < k
      · rw [if_pos l, if_pos (by omega)]
      · rw [if_neg l, if_neg (by omega)]
  · rw [World.frozen?_setCell]; exact (h j hj).2
theorem laid7_string {v : Int} {B m : Nat} {wr : World} (h : laid7 v B (m + 1) wr) (hm : m < 10) :
    (Go.convert 36 9 (.slice (some ⟨B, 0, none⟩) (m + 1) 10)).run Try.prog (wr.setCell ⟨B, m, none⟩ (.int .u8 (glast v m))) = .ok (.string (strOfNums (grp v m))) (wr.setCell ⟨B, m, none⟩ (.int .u8 (glast v m))) := by
  refine run_convert_bytes_arg (P := Try.prog) _ 36 5 Try.underlying36 Try.underlying5 B 0 (m + 1) 10 (grp v m) (grp_length v m) ?_ 9 Try.underlying9
  intro i hi
  rw [Nat.zero_add]
  by_cases e : i = m
  · subst e
    rw [World.cell?_setCell_same _ _ _ (h i (by omega)).1]
    simp [grp, List.getD]
  · rw [World.cell?_setCell_other _ _ _ _ (by intro q; injection q; omega), (h i (by omega)).1, if_pos hi]
    have hl : i < m := by omega
    simp [grp, List.getD, List.getElem?_append, hl]

theorem var_any (v : Int) (m : Nat) (w : World) (hv : 0 ≤ v) (hv' : v ≤ 18446744073709551615) (hm : ng v = (m : Int) + 1) :
    Calls Try.prog 9 #[.int .u64 v] w fun e w' => e = .returned (.string (strOfNums (grp v m))) ∧ Grown w w' := by
  have hm9 : m < 10 := by have := ng_bounds v hv hv'; omega
  have HM : Hid (ng v = (m : Int) + 1) := hm
  clear hm
  go_enter Try.func9, Try.ntmps9
  go_wp2_with (go_at_call 18; refine (groups_any _ _ hv hv').mono ?_; rintro e w' ⟨rfl, rfl⟩; rw [HM.out])
  go_loopw [9] (fun i wr => ∃ k : Nat, k ≤ m + 1 ∧ i = .int .i64 k ∧ laid7 v w.heap.size k wr ∧ Grown w wr) (fun i _ => m + 1 - (intOf i).toNat)
  case atStart => exact ⟨0, Nat.zero_le _, rfl, laid7_start v w 38, (Grown.refl _).alloc _ _⟩
  case round =>
    obtain ⟨k, hk, rfl, hl, hg⟩ := hrel
    by_cases hlt : k < m + 1
    · have hc := (hl k (by omega)).1
      have hf := (hl k (by omega)).2
      rw [if_neg (by omega)] at hc
      have R := laid7_step hl (by omega)
      have G := hg.setCell (a := ⟨w.heap.size, k, none⟩) (Nat.le_refl _) (.int .u8 (gmore v k))
      have he := gmore_code v k
      go_wp2
      go_roundw
      case rel => exact ⟨k + 1, by omega, by go_num, R, G⟩
      case measure => simp [intOf]; omega
    · have e : k = m + 1 := by omega
      subst e
      have hs := laid7_string hl hm9
      have hc := (hl m (by omega)).1
      have hf := (hl m (by omega)).2
      rw [if_pos (by omega)] at hc
      have he := glast_code v m
      have G := hg.setCell (a := ⟨w.heap.size, m, none⟩) (Nat.le_refl _) (.int .u8 (glast v m))
      have m1 : (m : Int) + 1 ≤ 10 := by omega
      have m0 : 0 ≤ (m : Int) + 1 := by omega
      have mt : ((m : Int) + 1).toNat = m + 1 := by omega
      go_wp2
      go_ret
      exact ⟨rfl, G⟩
end Go.Proofs.Ytahiahkjglenoab
