/-
  Proved here: word.Put of a number in n bytes, n from 0 to 8, is the list of its lowest n bytes; for other n the empty text.
-/
import Derived.Test.YtahiahkjglenoaaBase
namespace Go.Proofs.Ytahiahkjglenoaa
open Go.ChangeShapes Go.WideShapes Go.ChangeAt Go.RowKit
set_option linter.unusedVariables false

/-- The lowest n bytes of v, the lowest first, as numbers. -/
def low (v : Int) (n : Nat) : List Int := (List.range n).map fun i => v / 2 ^ (8 * i) % 256
theorem low_length (v : Int) (n : Nat) : (low v n).length = n := by simp [low]
theorem low_succ (v : Int) (n : Nat) : low v (n + 1) = low v n ++ [v / 2 ^ (8 * n) % 256] := by simp [low, List.range_succ]

/-- The array while the first k bytes are laid: its cells, and that none of them is frozen. -/
def laid (v : Int) (B k : Nat) (wr : World) : Prop :=
  ∀ j, j < 8 → wr.cell? ⟨B, j, none⟩ = some (.int .u8 (if j < k then v / 2 ^ (8 * j) % 256 else 0)) ∧ wr.frozen? ⟨B, j, none⟩ = false

theorem laid_start (v : Int) (w : World) (t : TypeId) : laid v w.heap.size 0 (w.alloc (.cells #[.int .u8 0, .int .u8 0, .int .u8 0, .int .u8 0, .int .u8 0, .int .u8 0, .int .u8 0, .int .u8 0] t)) := by
  intro j hj
  refine ⟨?_, ?_⟩
  · rw [World.cell?_alloc_new]
    have : j = 0 ∨ j = 1 ∨ j = 2 ∨ j = 3 ∨ j = 4 ∨ j = 5 ∨ j = 6 ∨ j = 7 := by omega
    rcases this with rfl | rfl | rfl | rfl | rfl | rfl | rfl | rfl <;> simp
  · rw [frozen?_alloc_cells]
    simp [World.frozen?]

theorem laid_step {v : Int} {B k : Nat} {wr : World} (h : laid v B k wr) (hk : k < 8) :
    laid v B (k + 1) (wr.setCell ⟨B, k, none⟩ (.int .u8 (v / 2 ^ (8 * k) % 256))) := by
  intro j hj
  refine ⟨?_, ?_⟩
  · by_cases e : j = k
    · subst e
      rw [World.cell?_setCell_same _ _ _ (h j hj).1, if_pos (by omega)]
    · rw [World.cell?_setCell_other _ _ _ _ (by intro q; injection q; omega), (h j hj).1]
      by_cases l : j < k
      · rw [if_pos l, if_pos (by omega)]
      · rw [if_neg l, if_neg (by omega)]
  · rw [World.frozen?_setCell]; exact (h j hj).2

theorem laid_string {v : Int} {B n : Nat} {wr : World} (h : laid v B n wr) (hn : n ≤ 8) :
    (Go.convert 40 9 (.slice (some ⟨B, 0, none⟩) n 8)).run Try.prog wr = .ok (.string (strOfNums (low v n))) wr := by
  refine run_convert_bytes_arg (P := Try.prog) wr 40 5 Try.underlying40 Try.underlying5 B 0 n 8 (low v n) (low_length v n) ?_ 9 Try.underlying9
  intro i hi
  rw [Nat.zero_add, (h i (by omega)).1, if_pos hi]
  simp [low, List.getD, hi]

theorem put_any (v : Int) (n : Nat) (w : World) (hv : 0 ≤ v) (hv' : v ≤ 18446744073709551615) (hn : n ≤ 8) :
    Calls Try.prog 9 #[.int .u64 v, .int .i64 n] w fun e w' => e = .returned (.string (strOfNums (low v n))) ∧ Grown w w' := by
  go_enter Try.func9, Try.ntmps9
  go_wp2
  go_loopw [14] (fun i wr => ∃ k : Nat, k ≤ n ∧ i = .int .i64 k ∧ laid v w.heap.size k wr ∧ Grown w wr) (fun i _ => n - (intOf i).toNat)
  case atStart => exact ⟨0, Nat.zero_le _, rfl, laid_start v w 39, (Grown.refl _).alloc _ _⟩
  case round =>
    obtain ⟨k, hk, rfl, hl, hg⟩ := hrel
    by_cases hlt : k < n
    · have hc := (hl k (by omega)).1
      have hf := (hl k (by omega)).2
      rw [if_neg (by omega)] at hc
      have R := laid_step hl (by omega)
      have G := hg.setCell (a := ⟨w.heap.size, k, none⟩) (Nat.le_refl _) (.int .u8 (v / 2 ^ (8 * k) % 256))
      go_wp2
      go_roundw
      case rel => exact ⟨k + 1, by omega, by go_num, R, G⟩
      case measure => simp [intOf]; omega
    · have e : k = n := by omega
      subst e
      have hs := laid_string hl hn
      go_wp2
      go_ret
      exact ⟨rfl, hg⟩

theorem put_none (v n : Int) (w : World) (hn : n < 0 ∨ 8 < n) :
    Calls Try.prog 9 #[.int .u64 v, .int .i64 n] w fun e w' => e = .returned (.string ⟨#[]⟩) ∧ w' = w := by
  rcases hn with hn | hn
  · go_enter Try.func9, Try.ntmps9
    go_wp2
    go_ret
    exact ⟨rfl, rfl⟩
  · have h0 : ¬ n < 0 := by omega
    go_enter Try.func9, Try.ntmps9
    go_wp2
    go_ret
    exact ⟨rfl, rfl⟩
end Go.Proofs.Ytahiahkjglenoaa
