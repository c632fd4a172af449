/-
  Proved here: the stamp that stands in a sector of 64 bytes (seal.stampOf) is the number of its last eight bytes, the lowest first.
-/
import Derived.Test.YtcbjjofckhohjaaSNum
namespace Go.Proofs.Ytcbjjofckhohjaa.Sl
open Go.ChangeShapes Go.WideShapes Go.ChangeAt Go.RowKit
set_option linter.unusedVariables false
set_option linter.unusedSimpArgs false
set_option maxRecDepth 20000

/-- The bytes behind a place. -/
def atOff (s : List Int) (o : Nat) : Nat → Int := fun j => s.getD (o + j) 0
theorem atOff_fits {s : List Int} (h : Bytes s) (o j : Nat) : 0 ≤ atOff s o j ∧ atOff s o j ≤ 255 := h.at (o + j)
theorem stamp_any (s : List Int) (hs : s.length = 64) (hb : Bytes s) (w : World) :
    Calls Try.prog 42 #[.agg (bs s)] w fun e w' => e = .returned (.int .u64 (num (atOff s 56) 8)) ∧ Below w.heap.size w w' := by
  have r0 : Row (w.alloc (.cells (bs s) 81)) w.heap.size (bs s) 81 := Row.new _ _ _
  have hb1 : Below w.heap.size w (w.alloc (.cells (bs s) 81)) := (Below.refl _ _).alloc (Nat.le_refl _) _
  go_enter Try.func42, Try.ntmps42
  go_wp2
  go_loop [3, 5] (fun g i => ∃ k : Nat, k ≤ 8 ∧ i = .int .i64 k ∧ g = .int .u64 (num (atOff s 56) k)) (fun _ i => 8 - (intOf i).toNat)
  case atStart => exact ⟨0, Nat.zero_le _, rfl, rfl⟩
  case round =>
    obtain ⟨k, hk, rfl, rfl⟩ := hrel
    by_cases hlt : k < 8
    · have hc : (w.alloc (.cells (bs s) 81)).cell? ⟨w.heap.size, 56 + k, none⟩ = some (.int .u8 (atOff s 56 k)) := row_cell r0 (56 + k) (by omega)
      have hbd := atOff_fits hb 56 k
      have HS := num_step (atOff s 56) (atOff_fits hb 56) k hlt
      go_wp2
      go_round
      case rel => exact ⟨k + 1, by omega, by go_num, rfl⟩
      case measure => simp [intOf]; omega
    · have e : k = 8 := by omega
      subst e
      go_wp2
      go_ret
      exact ⟨rfl, hb1⟩
end Go.Proofs.Ytcbjjofckhohjaa.Sl
