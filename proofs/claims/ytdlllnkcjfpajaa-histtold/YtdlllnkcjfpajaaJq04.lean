/-
  Proved here: math/bits.Len64 of any uint64 is the number of its bits, and the world stays as it was.
-/
import Derived.Test.YtdlllnkcjfpajaaRows
import Derived.Lib.BitFns
import Derived.Lib.Walk
namespace Go.Proofs.Ytdlllnkcjfpajaa.U4
set_option linter.unusedVariables false
def blen (x : Int) : Int := (Lib.bitLen x.toNat : Nat)
theorem blen_small (y : Int) (h0 : 0 ≤ y) (h1 : y ≤ 255) : Lib.len8 (y % 256) = blen y ∧ 0 ≤ blen y ∧ blen y ≤ 8 := by
  have e : y % 256 = y := by omega
  have l := Lib.bitLen_le8' y h0 h1
  rw [e, Lib.len8_of y h0 h1]
  unfold blen
  omega
theorem blen_shift (x : Int) (b : Nat) (y : Int) (hb : b ≤ 56) (hy : y = x / 2 ^ b) (h0 : 0 < y) (h1 : x ≤ 18446744073709551615) : blen x = b + blen y := by
  have hp : (0 : Int) < 2 ^ b := Int.pow_pos (by decide)
  have hx : 0 < x := by
    rcases Int.lt_or_le 0 x with h | h
    · exact h
    · have : x / 2 ^ b ≤ 0 := Int.ediv_le_of_le_mul hp (by simpa using h)
      omega
  have ey : y.toNat = x.toNat / 2 ^ b := by
    obtain ⟨n, rfl⟩ := Int.eq_ofNat_of_zero_le (Int.le_of_lt hx)
    have c : ((2 : Int) ^ b) = ((2 ^ b : Nat) : Int) := by simp
    rw [hy, c, ← Int.natCast_ediv]
    rfl
  have le : 2 ^ b ≤ x.toNat := by
    rcases Nat.lt_or_ge x.toNat (2 ^ b) with h | h
    · have := Nat.div_eq_of_lt h
      omega
    · exact h
  have s := Lib.bitLen_shift b x.toNat le (by omega)
  unfold blen
  rw [s, ← ey]
  omega
theorem len_num {a b : Int} (h : a = b) (w : World) : Ending.returned (.int .i64 a) = .returned (.int .i64 b) ∧ w = w := ⟨by rw [h], rfl⟩
set_option maxHeartbeats 4000000 in
set_option maxRecDepth 100000 in
theorem len64_any (x : Int) (w : World) (h0 : 0 ≤ x) (h1 : x ≤ 18446744073709551615) :
    Calls Try.prog 86 #[.int .u64 x] w fun e w' => e = .returned (.int .i64 (blen x)) ∧ w' = w := by
  go_enter Try.func86, Try.ntmps86
  go_wp2
  all_goals go_ret
  all_goals refine len_num ?_ w
  · have s := blen_shift x 56 (x / 4294967296 / 65536 / 256) (by omega) (by omega) (by omega) h1
    have t := blen_small (x / 4294967296 / 65536 / 256) (by omega) (by omega)
    omega
  · have s := blen_shift x 48 (x / 4294967296 / 65536) (by omega) (by omega) (by omega) h1
    have t := blen_small (x / 4294967296 / 65536) (by omega) (by omega)
    omega
  · have s := blen_shift x 40 (x / 4294967296 / 256) (by omega) (by omega) (by omega) h1
    have t := blen_small (x / 4294967296 / 256) (by omega) (by omega)
    omega
  · have s := blen_shift x 32 (x / 4294967296) (by omega) (by omega) (by omega) h1
    have t := blen_small (x / 4294967296) (by omega) (by omega)
    omega
  · have s := blen_shift x 24 (x / 65536 / 256) (by omega) (by omega) (by omega) h1
    have t := blen_small (x / 65536 / 256) (by omega) (by omega)
    omega
  · have s := blen_shift x 16 (x / 65536) (by omega) (by omega) (by omega) h1
    have t := blen_small (x / 65536) (by omega) (by omega)
    omega
  · have s := blen_shift x 8 (x / 256) (by omega) (by omega) (by omega) h1
    have t := blen_small (x / 256) (by omega) (by omega)
    omega
  · have t := blen_small x (by omega) (by omega)
    omega
end Go.Proofs.Ytdlllnkcjfpajaa.U4
