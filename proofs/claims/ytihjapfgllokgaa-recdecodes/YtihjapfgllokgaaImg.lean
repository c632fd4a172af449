/-
  Proved here: rec.imageText: a payload up to its last byte that isn't 0.
-/
import Derived.Test.YtihjapfgllokgaaFld
namespace Go.Proofs.Ytihjapfgllokgaa
open Go.ChangeShapes Go.WideShapes Go.ChangeAt Go.RowKit
set_option linter.unusedVariables false
set_option linter.unusedSimpArgs false

/-- How many bytes there are up to the last one that isn't 0. -/
def imgN (l : List Int) : Nat → Nat
  | 0 => 0
  | k + 1 => if l.getD k 0 = 0 then imgN l k else k + 1
theorem imgN_le (l : List Int) : ∀ n, imgN l n ≤ n
  | 0 => Nat.le_refl _
  | k + 1 => by
    unfold imgN; split
    · have := imgN_le l k; omega
    · omega
def imgT (l : List Int) : List Int := l.take (imgN l 224)
set_option maxRecDepth 20000 in
set_option maxHeartbeats 1000000 in
theorem image_any (p : List Int) (w : World) (hp : p.length = 224) (hb : Bytes p) :
    Calls Try.prog 42 #[.agg (bs p)] w fun e w' => e = .returned (.string (strOfNums (imgT p))) ∧ Below w.heap.size w w' := by
  have r0 : Row (w.alloc (.cells (bs p) 26)) w.heap.size (bs p) 26 := Row.new _ _ _
  have b0 : Below w.heap.size w (w.alloc (.cells (bs p) 26)) := (Below.refl _ _).alloc (Nat.le_refl _) _
  obtain ⟨S, HS⟩ : ∃ S, Hid (strOfNums (imgT p) = S) := ⟨_, rfl⟩
  rw [HS.out]
  go_enter Try.func42, Try.ntmps42
  go_upto_region 2 with fail
  generalize w.alloc (.cells (bs p) 26) = w1 at r0 b0 ⊢
  go_loopw [3] (fun x wr => ∃ (n : Nat), x = .int .i64 n ∧ n ≤ 224 ∧ Hid (imgN p n = imgN p 224) ∧ wr = w1) (fun x _ => (intOf x).toNat)
  case atStart => exact ⟨224, rfl, Nat.le_refl _, rfl, rfl⟩
  case round =>
    obtain ⟨n, rfl, hn, HI, rfl⟩ := hrel
    by_cases hn0 : n = 0
    · subst hn0
      have HT : Hid (imgT p = []) := by show _ = _; unfold imgT; rw [← HI.out]; rfl
      have hc := str_part r0 0 0 224 [] rfl (by omega)
      have HS0 : strOfNums [] = S := by rw [← HS.out, HT.out]
      rw [HS0] at hc
      have h0 : ¬ ((0 : Nat) : Int) > 0 := by omega
      go_wp2
      go_ret
      exact ⟨rfl, b0⟩
    · obtain ⟨m, HM⟩ : ∃ m : Nat, Hid (n = m + 1) := ⟨n - 1, by show _ = _; omega⟩
      have hc := row_cell r0 m (by have := HM.out; omega)
      have h0 : (n : Int) > 0 := by omega
      have hm : (n : Int) - 1 = (m : Int) := by have := HM.out; omega
      have hm2 : (m : Int) < 224 := by have := HM.out; omega
      by_cases hz : p.getD m 0 = 0
      · have HI2 : Hid (imgN p m = imgN p 224) := by show _ = _; rw [← HI.out, HM.out]; show _ = if _ then _ else _; rw [if_pos hz]
        obtain ⟨x, HX⟩ : ∃ x, Hid (p.getD m 0 = x) := ⟨_, rfl⟩
        rw [HX.out] at hc hz
        subst hz
        clear HX
        go_wp2
        go_roundw
        case rel => exact ⟨m, rfl, by have := HM.out; omega, HI2, trivial⟩
        case measure => have := HM.out; simp [intOf]; omega
      · have HT : Hid (imgT p = p.take n) := by show _ = _; unfold imgT; rw [← HI.out, HM.out]; show List.take (if _ then _ else _) _ = _; rw [if_neg hz]
        have hcv := str_part r0 0 n 224 (p.take n) rfl (by omega)
        have HS0 : strOfNums (p.take n) = S := by rw [← HS.out, HT.out]
        rw [HS0] at hcv
        obtain ⟨x, HX⟩ : ∃ x, Hid (p.getD m 0 = x) := ⟨_, rfl⟩
        rw [HX.out] at hc hz
        have hz' : (x == 0) = false := by simpa using hz
        have h224 : (n : Int) ≤ 224 := by omega
        clear HX hp
        go_wp2
        go_ret
        exact ⟨rfl, b0⟩
end Go.Proofs.Ytihjapfgllokgaa
