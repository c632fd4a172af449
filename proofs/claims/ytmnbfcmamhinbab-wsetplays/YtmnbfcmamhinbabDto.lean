/-
  Plain facts towards the document's pieces (varveref03): gone through place by place, which pieces are told so far; short strings of bytes.
-/
import Derived.Test.YtmnbfcmamhinbabDas
namespace Go.Proofs.Ytmnbfcmamhinbab.Dl
open Go.ChangeShapes Go.WideShapes Go.ChangeAt Go.RowKit
set_option linter.unusedVariables false
set_option linter.unusedSimpArgs false
set_option maxRecDepth 20000

/-- Gone through up to i, the pieces told up to a. -/
def Told (b : List Int) (H : List Bool) (i a : Nat) (xs : List Int) : Prop :=
  Gather b H a xs ∧ i ≤ a ∧ a ≤ 65 ∧ (a = 0 ∨ H.getD (a - 1) false = false) ∧ ∀ j, i ≤ j → j < a → H.getD j false = true → 0 < j ∧ H.getD (j - 1) false = true
theorem Told.start (b : List Int) (H : List Bool) : Told b H 0 0 [] := ⟨Gather.start b H, by omega, by omega, Or.inl rfl, fun j _ h => by omega⟩
theorem Told.skip {b : List Int} {H : List Bool} {i a : Nat} {xs : List Int} (h : Told b H i a xs) (hi : i < a) : Told b H (i + 1) a xs :=
  ⟨h.1, by omega, h.2.2.1, h.2.2.2.1, fun j h1 h2 => h.2.2.2.2 j (by omega) h2⟩
theorem Told.none {b : List Int} {H : List Bool} {a : Nat} {xs : List Int} (h : Told b H a a xs) (ha : a < 64) (hH : H.getD a false = false) : Told b H (a + 1) (a + 1) xs := by
  have hr : runAt H a = 0 := by
    by_cases q : 0 < runAt H a
    · have := runAt_at H a 0 q
      rw [Nat.add_zero, hH] at this; cases this
    · omega
  have g := h.1.step ha
  unfold pieceAt at g
  rw [hr, if_neg (by omega), List.append_nil, Nat.add_zero] at g
  exact ⟨g, Nat.le_refl _, by omega, Or.inr (by rw [show a + 1 - 1 = a by omega]; exact hH), fun j h1 h2 => by omega⟩
theorem Told.run {b : List Int} {H : List Bool} {a : Nat} {xs : List Int} (h : Told b H a a xs) (hl : H.length = 64) (ha : a < 64) (hH : H.getD a false = true) :
    0 < runAt H a ∧ Told b H (a + 1) (a + runAt H a + 1) (xs ++ (a : Int) :: (runAt H a : Int) :: (b.drop a).take (runAt H a)) := by
  have hr : 0 < runAt H a := by
    by_cases q : 0 < runAt H a
    · exact q
    · have hE := runAt_end H a
      rw [show runAt H a = 0 by omega, Nat.add_zero, hH] at hE; cases hE
  have hle := runAt_le H a hl (by omega)
  refine ⟨hr, ?_⟩
  have g := h.1.step ha
  unfold pieceAt at g
  rw [if_pos hr] at g
  refine ⟨g, by omega, by omega, Or.inr (by rw [show a + runAt H a + 1 - 1 = a + runAt H a by omega]; exact runAt_end H a), ?_⟩
  intro j h1 h2 h3
  have hE := runAt_end H a
  by_cases e : j = a + runAt H a
  · rw [e, hE] at h3; cases h3
  · refine ⟨by omega, ?_⟩
    have := runAt_at H a (j - 1 - a) (by omega)
    rw [show a + (j - 1 - a) = j - 1 by omega] at this
    exact this
theorem strs_append (x y : List Int) : strOfNums x ++ strOfNums y = strOfNums (x ++ y) := by
  unfold strOfNums
  rw [ByteArray.mk_append_mk, List.map_append]

theorem take_step (b : List Int) (a c : Nat) (h : a + c < b.length) : (b.drop a).take c ++ [b.getD (a + c) 0] = (b.drop a).take (c + 1) := by
  rw [List.take_add_one, List.getElem?_drop, List.getElem?_eq_getElem h]
  simp only [List.getD]
  rw [List.getElem?_eq_getElem h]; rfl
theorem one_string (w : World) (x : Int) : (Go.convert 76 9 (.slice (some ⟨w.heap.size, 0, none⟩) 1 1)).run Try.prog (w.alloc (.cells #[.int .u8 x] 5)) = .ok (.string (strOfNums [x])) (w.alloc (.cells #[.int .u8 x] 5)) := by
  refine run_convert_bytes_arg (P := Try.prog) _ 76 5 Try.underlying76 Try.underlying5 w.heap.size 0 1 1 [x] rfl ?_ 9 Try.underlying9
  intro i hi
  have : i = 0 := by omega
  subst this
  rw [cell_of_row _ _ 0 _ _ _ (heap_alloc_last w (.cells #[.int .u8 x] 5))]; rfl
theorem two_string (w : World) (x y : Int) : (Go.convert 76 9 (.slice (some ⟨w.heap.size, 0, none⟩) 2 2)).run Try.prog (w.alloc (.cells #[.int .u8 x, .int .u8 y] 5)) = .ok (.string (strOfNums [x, y])) (w.alloc (.cells #[.int .u8 x, .int .u8 y] 5)) := by
  refine run_convert_bytes_arg (P := Try.prog) _ 76 5 Try.underlying76 Try.underlying5 w.heap.size 0 2 2 [x, y] rfl ?_ 9 Try.underlying9
  intro i hi
  have : i = 0 ∨ i = 1 := by omega
  rcases this with rfl | rfl
  · rw [cell_of_row _ _ 0 _ _ _ (heap_alloc_last w (.cells #[.int .u8 x, .int .u8 y] 5))]; rfl
  · rw [Nat.zero_add, cell_of_row _ _ 1 _ _ _ (heap_alloc_last w (.cells #[.int .u8 x, .int .u8 y] 5))]; rfl
end Go.Proofs.Ytmnbfcmamhinbab.Dl
