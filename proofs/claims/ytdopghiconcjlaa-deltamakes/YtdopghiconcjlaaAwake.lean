/-
  Proved here: the statements' own check that a byte that differs makes a piece answers true.
-/
import Derived.Test.YtdopghiconcjlaaTheory
namespace Go.Proofs.Ytdopghiconcjlaa
open Go.ChangeShapes Go.WideShapes Go.ChangeAt Go.RowKit
set_option linter.unusedVariables false
set_option linter.unusedSimpArgs false

theorem awake_text : strOfNums (tell ((zs 64).set 5 7) (hasD (zs 64) ((zs 64).set 5 7) 64)) = ⟨#[5, 1, 7]⟩ := by decide +kernel
theorem awake_pieces : pieces ⟨#[5, 1, 7]⟩ = some [(5, [7])] := by decide +kernel
theorem awake_any (w : World) : Calls Try.prog 14 #[] w fun e w' => e = .returned (.bool true) ∧ Below w.heap.size w w' := by
  have hz := zero23
  have a0 : Row ((w.alloc (.cells (bs (zs 64)) 23)).alloc (.cells (bs (zs 64)) 23)) w.heap.size (bs (zs 64)) 23 := (Row.new _ _ _).alloc _
  have a1 : Row ((w.alloc (.cells (bs (zs 64)) 23)).alloc (.cells (bs (zs 64)) 23)) (w.heap.size + 1) (bs (zs 64)) 23 := by have := Row.new (w.alloc (.cells (bs (zs 64)) 23)) (bs (zs 64)) 23; simpa using this
  have ab : Below w.heap.size w ((w.alloc (.cells (bs (zs 64)) 23)).alloc (.cells (bs (zs 64)) 23)) := ((Below.refl _ _).alloc (Nat.le_refl _) _).alloc (by simp) _
  have hc := row_cell a1 5 (by rw [zs_length]; decide)
  have hf := row_frozen a1 5
  have b1 := row_setCell a1 5 7
  have b0 := row_setCell_other a0 (show w.heap.size ≠ w.heap.size + 1 by omega) 5 (.int .u8 7)
  have bb := ab.setCell (p := ⟨w.heap.size + 1, 5, none⟩) (by show w.heap.size ≤ w.heap.size + 1; omega) (.int .u8 7)
  generalize (zs 64).getD 5 0 = y0 at hc
  have HT := show Hid _ from awake_text
  have hl : ((zs 64).set 5 7).length = 64 := by rw [List.length_set, zs_length]
  have HC : Hid ((⟨#[5, 1, 7]⟩ : ByteArray).size ≤ maxLen) := by show (3 : Nat) ≤ maxLen; unfold maxLen; omega
  have HP := show Hid _ from awake_pieces
  obtain ⟨Z, HZ⟩ : ∃ Z, Hid (zs 64 = Z) := ⟨_, rfl⟩
  obtain ⟨V, HV⟩ : ∃ V, Hid ((zs 64).set 5 7 = V) := ⟨_, rfl⟩
  have hZl : Z.length = 64 := by rw [← HZ.out, zs_length]
  rw [HV.out] at HT hl
  rw [HZ.out] at HT hc hf a0 a1 ab hz
  clear b0 b1 bb
  have b0 : Row ((w.alloc (.cells (bs Z) 23)).alloc (.cells ((bs Z).setIfInBounds 5 (.int .u8 7)) 23)) w.heap.size (bs Z) 23 := (Row.new _ _ _).alloc _
  have b1 : Row ((w.alloc (.cells (bs Z) 23)).alloc (.cells ((bs Z).setIfInBounds 5 (.int .u8 7)) 23)) (w.heap.size + 1) (bs V) 23 := by
    have e : (bs Z).setIfInBounds 5 (.int .u8 7) = bs V := by rw [bs_set, ← HV.out, ← HZ.out]
    rw [e]
    have := Row.new (w.alloc (.cells (bs Z) 23)) (bs V) 23; simpa using this
  have bb : Below w.heap.size w ((w.alloc (.cells (bs Z) 23)).alloc (.cells ((bs Z).setIfInBounds 5 (.int .u8 7)) 23)) := ((Below.refl _ _).alloc (Nat.le_refl _) _).alloc (by simp) _
  clear a0 a1 ab
  go_enter Try.func14, Try.ntmps14
  go_wp2_with (first
    | (refine load_row rfl 23 (.tmp 1) rfl w.heap.size rfl 23 (bs Z) b0 64 5 Try.underlying23 size23 (by rw [bs_size, hZl]) ?_)
    | (refine load_row rfl 23 (.tmp 2) rfl (w.heap.size + 1) rfl 23 (bs V) b1 64 5 Try.underlying23 size23 (by rw [bs_size, hl]) ?_)
    | (go_at_call 9; refine (make_any Z V hZl hl _).mono ?_; rw [HT.out]; rintro e w1 ⟨rfl, h1⟩
       have l0 := b0.lt
       have c1 := bb.trans (h1.mono (Nat.le_of_lt l0))
       have l1 := (b0.below h1 l0).lt
       clear b0 b1 bb h1)
    | (go_at_call 13; refine (check_any _ HC.out _).mono ?_; rw [HP.out]; rintro e w2 ⟨rfl, h2⟩))
  go_ret
  exact ⟨by simp, c1.trans (h2.mono (Nat.le_of_lt l1))⟩
end Go.Proofs.Ytdopghiconcjlaa
