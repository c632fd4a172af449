/-
  Proved here: seal.Cut of a block of 256 bytes is its sector or noughts, and seal.Lay is the block with another sector or as it was.
-/
import Derived.Test.YtcbjjofckhohjaaText
namespace Go.Proofs.Ytcbjjofckhohjaa.Sl
open Go.ChangeShapes Go.WideShapes Go.ChangeAt Go.RowKit
set_option linter.unusedVariables false
set_option linter.unusedSimpArgs false
set_option maxRecDepth 20000

theorem within_any (i : Int) (w : World) :
    Calls Try.prog 48 #[.int .i64 i] w fun e w' => e = .returned (.bool (decide (0 ≤ i ∧ i < 4))) ∧ w' = w := by
  by_cases h : 0 ≤ i
  · by_cases h' : i < 4
    · go_enter Try.func48, Try.ntmps48
      go_wp2
      go_ret
      exact ⟨by simp [h, h'], rfl⟩
    · go_enter Try.func48, Try.ntmps48
      go_wp2
      go_ret
      exact ⟨by simp [h, h'], rfl⟩
  · have e : decide (0 ≤ i ∧ i < 4) = false := by simp [h]
    rw [e]
    go_enter Try.func48, Try.ntmps48
    go_wp2
    go_ret
    exact ⟨rfl, rfl⟩

/-- A block's sector. -/
def cut (b : List Int) (i : Nat) : List Int := (b.drop (64 * i)).take 64
theorem cut_length (b : List Int) (i : Nat) (hb : b.length = 256) (hi : i < 4) : (cut b i).length = 64 := by simp [cut]; omega
/-- A block with another sector. -/
def lay (b : List Int) (i : Nat) (s : List Int) : List Int := splice b (64 * i) s
theorem lay_length (b : List Int) (i : Nat) (s : List Int) (hb : b.length = 256) (hs : s.length = 64) (hi : i < 4) : (lay b i s).length = 256 := by
  unfold lay; rw [length_splice _ _ _ (by omega)]; exact hb
theorem splice_whole (l m : List Int) (h : l.length = m.length) : splice l 0 m = m := by simp [splice, h]

theorem cut_is (b : List Int) (i so : Nat) (hb : b.length = 256) (hi : i < 4) (hs : so = 64 * i) : splice (zs 64) 0 ((b.drop so).take 64) = cut b i := by
  subst hs
  rw [splice_whole _ _ (by simp [zs]; omega)]; rfl

theorem cut_in (b : List Int) (hb : b.length = 256) (i : Nat) (hi : i < 4) (w : World) :
    Calls Try.prog 34 #[.agg (bs b), .int .i64 i] w fun e w' => e = .returned (.agg (bs (cut b i))) ∧ Below w.heap.size w w' := by
  have hz := zero81
  have hl := cut_length b i hb hi
  have hc := fun so => cut_is b i so hb hi
  generalize cut b i = S at hl hc ⊢
  have HC : Hid (∀ so, so = 64 * i → splice (zs 64) 0 ((b.drop so).take 64) = S) := hc
  clear hc
  have hi' : i = 0 ∨ i = 1 ∨ i = 2 ∨ i = 3 := by omega
  have e0 : IntKind.i64.wrap 0 = 0 := by decide
  have e1 : IntKind.i64.wrap 64 = 64 := by decide
  have e2 : IntKind.i64.wrap 128 = 128 := by decide
  have e3 : IntKind.i64.wrap 192 = 192 := by decide
  rcases hi' with hi0 | hi0 | hi0 | hi0
  all_goals
    go_enter Try.func34, Try.ntmps34
    go_wp2_with (go_at_call 48; refine (within_any _ _).mono ?_; (try simp only [Int.cast_ofNat_Int, Int.reduceLE, Int.reduceLT]); rintro e w' ⟨rfl, rfl⟩)
    obtain ⟨w1, hw1⟩ : ∃ w1, w1 = (((w.alloc (Obj.cells (bs b) 29)).alloc (Obj.cells (bs (zs 64)) 81)).alloc (Obj.cells (bs (zs 64)) 81)) := ⟨_, rfl⟩
    have r0 : Row w1 w.heap.size (bs b) 29 := by rw [hw1]; exact ((Row.new _ _ _).alloc _).alloc _
    have r1 : Row w1 (w.heap.size + 1) (bs (zs 64)) 81 := by rw [hw1]; have := (Row.new (w.alloc (Obj.cells (bs b) 29)) (bs (zs 64)) 81).alloc (Obj.cells (bs (zs 64)) 81); simpa using this
    have r2 : Row w1 (w.heap.size + 1 + 1) (bs (zs 64)) 81 := by rw [hw1]; have := (Row.new ((w.alloc (Obj.cells (bs b) 29)).alloc (Obj.cells (bs (zs 64)) 81)) (bs (zs 64)) 81); simpa using this
    have hb1 : Below w.heap.size w w1 := by rw [hw1]; exact ((((Below.refl _ _).alloc (Nat.le_refl _) _).alloc (by simp) _).alloc (by simp; omega) _)
    rw [← hw1]
    clear hw1
    have hA : 0 + 64 ≤ (zs 64).length := by rw [zs_length]; decide
    go_region_law (refine step_copy rfl (.tmp 8) (.tmp 11) 58 58 rfl 5 Try.underlying58 size5 (w.heap.size + 1 + 1) 0 64 64 w.heap.size _ _ _ rfl rfl (zs 64) b 81 29 r2 r0 64 rfl hA (by omega) S (HC.out _ (by omega)) ?_)
    have r2' : Row (w1.drew.setRow (w.heap.size + 1 + 1) (bs S)) (w.heap.size + 1 + 1) (bs S) 81 := r2.set (bs S)
    have r1' : Row (w1.drew.setRow (w.heap.size + 1 + 1) (bs S)) (w.heap.size + 1) (bs (zs 64)) 81 := r1.other (show w.heap.size + 1 ≠ w.heap.size + 1 + 1 by omega) (bs S)
    have hb2 : Below w.heap.size w (w1.drew.setRow (w.heap.size + 1 + 1) (bs S)) := below_setRow hb1.drew (by omega) _
    clear r0 r1 r2 hb1
    generalize w1.drew.setRow (w.heap.size + 1 + 1) (bs S) = w2 at r1' r2' hb2 ⊢
    go_wp2_with (first
      | (refine load_row rfl 81 (.tmp 5) rfl (w.heap.size + 1 + 1) rfl 81 (bs S) r2' 64 5 Try.underlying81 size81 (by rw [bs_size, hl]) ?_)
      | (refine store_row rfl 81 (.tmp 4) (.tmp 13) rfl (w.heap.size + 1) S rfl rfl 81 _ r1' 64 size81 (by rw [bs_size, zs_length]) hl ?_))
    refine bodyPost_ret (v := .agg (bs S)) ?_ rfl ⟨rfl, below_setRow hb2 (by omega) _⟩
    exact ret_row (fn := Try.f34) rfl _ _ (w.heap.size + 1) 81 (bs S) 64 5 rfl (r1'.set _) Try.underlying81 size81 (by rw [bs_size, hl])

theorem cut_out (b : List Int) (i : Int) (hi : ¬ (0 ≤ i ∧ i < 4)) (w : World) :
    Calls Try.prog 34 #[.agg (bs b), .int .i64 i] w fun e w' => e = .returned (.agg (bs (zs 64))) ∧ Below w.heap.size w w' := by
  have hz := zero81
  have e : decide (0 ≤ i ∧ i < 4) = false := by simp only [decide_eq_false_iff_not]; exact hi
  have r1 : Row (((w.alloc (Obj.cells (bs b) 29)).alloc (Obj.cells (bs (zs 64)) 81)).alloc (Obj.cells (bs (zs 64)) 81)) (w.heap.size + 1) (bs (zs 64)) 81 := by have := (Row.new (w.alloc (Obj.cells (bs b) 29)) (bs (zs 64)) 81).alloc (Obj.cells (bs (zs 64)) 81); simpa using this
  have r2 : Row (((w.alloc (Obj.cells (bs b) 29)).alloc (Obj.cells (bs (zs 64)) 81)).alloc (Obj.cells (bs (zs 64)) 81)) (w.heap.size + 1 + 1) (bs (zs 64)) 81 := by have := (Row.new ((w.alloc (Obj.cells (bs b) 29)).alloc (Obj.cells (bs (zs 64)) 81)) (bs (zs 64)) 81); simpa using this
  have hb2 : Below w.heap.size w (((w.alloc (Obj.cells (bs b) 29)).alloc (Obj.cells (bs (zs 64)) 81)).alloc (Obj.cells (bs (zs 64)) 81)) := ((((Below.refl _ _).alloc (Nat.le_refl _) _).alloc (by simp) _).alloc (by simp; omega) _)
  go_enter Try.func34, Try.ntmps34
  go_wp2_with (first
      | (go_at_call 48; refine (within_any _ _).mono ?_; rw [e]; rintro e w' ⟨rfl, rfl⟩)
      | (refine load_row rfl 81 (.tmp 5) rfl (w.heap.size + 1 + 1) rfl 81 (bs (zs 64)) r2 64 5 Try.underlying81 size81 (by rw [bs_size, zs_length]) ?_)
      | (refine store_row rfl 81 (.tmp 4) (.tmp 13) rfl (w.heap.size + 1) (zs 64) rfl rfl 81 _ r1 64 size81 (by rw [bs_size, zs_length]) (zs_length 64) ?_))
  refine bodyPost_ret (v := .agg (bs (zs 64))) ?_ rfl ⟨rfl, below_setRow hb2 (by omega) _⟩
  exact ret_row (fn := Try.f34) rfl _ _ (w.heap.size + 1) 81 (bs (zs 64)) 64 5 rfl (r1.set _) Try.underlying81 size81 (by rw [bs_size, zs_length])

theorem lay_is (b : List Int) (i so : Nat) (s : List Int) (hs : s.length = 64) (ho : so = 64 * i) : splice b so ((s.drop 0).take 64) = lay b i s := by
  subst ho
  rw [List.drop_zero, List.take_of_length_le (by omega)]; rfl

theorem lay_in (b s : List Int) (hb : b.length = 256) (hs : s.length = 64) (i : Nat) (hi : i < 4) (w : World) :
    Calls Try.prog 40 #[.agg (bs b), .int .i64 i, .agg (bs s)] w fun e w' => e = .returned (.agg (bs (lay b i s))) ∧ Below w.heap.size w w' := by
  have hz := zero29
  have hl := lay_length b i s hb hs hi
  have hc := fun so => lay_is b i so s hs
  generalize lay b i s = S at hl hc ⊢
  have HC : Hid (∀ so, so = 64 * i → splice b so ((s.drop 0).take 64) = S) := hc
  clear hc
  have hi' : i = 0 ∨ i = 1 ∨ i = 2 ∨ i = 3 := by omega
  have e0 : IntKind.i64.wrap 0 = 0 := by decide
  have e1 : IntKind.i64.wrap 64 = 64 := by decide
  have e2 : IntKind.i64.wrap 128 = 128 := by decide
  have e3 : IntKind.i64.wrap 192 = 192 := by decide
  rcases hi' with hi0 | hi0 | hi0 | hi0
  all_goals
    go_enter Try.func40, Try.ntmps40
    go_wp2_with (go_at_call 48; refine (within_any _ _).mono ?_; (try simp only [Int.cast_ofNat_Int, Int.reduceLE, Int.reduceLT]); rintro e w' ⟨rfl, rfl⟩)
    obtain ⟨w1, hw1⟩ : ∃ w1, w1 = (((w.alloc (Obj.cells (bs b) 29)).alloc (Obj.cells (bs s) 81)).alloc (Obj.cells (bs (zs 256)) 29)) := ⟨_, rfl⟩
    have r0 : Row w1 w.heap.size (bs b) 29 := by rw [hw1]; exact ((Row.new _ _ _).alloc _).alloc _
    have r1 : Row w1 (w.heap.size + 1) (bs s) 81 := by rw [hw1]; have := (Row.new (w.alloc (Obj.cells (bs b) 29)) (bs s) 81).alloc (Obj.cells (bs (zs 256)) 29); simpa using this
    have r2 : Row w1 (w.heap.size + 1 + 1) (bs (zs 256)) 29 := by rw [hw1]; have := (Row.new ((w.alloc (Obj.cells (bs b) 29)).alloc (Obj.cells (bs s) 81)) (bs (zs 256)) 29); simpa using this
    have hb1 : Below w.heap.size w w1 := by rw [hw1]; exact ((((Below.refl _ _).alloc (Nat.le_refl _) _).alloc (by simp) _).alloc (by simp; omega) _)
    rw [← hw1]
    clear hw1
    go_region_law (refine step_copy rfl (.tmp 11) (.tmp 12) 58 58 rfl 5 Try.underlying58 size5 w.heap.size _ _ _ (w.heap.size + 1) 0 64 64 rfl rfl b s 29 81 r0 r1 64 rfl (by omega) (by omega) S (HC.out _ (by omega)) ?_)
    all_goals
      have r2' : Row (w1.drew.setRow w.heap.size (bs S)) (w.heap.size + 1 + 1) (bs (zs 256)) 29 := r2.other (show w.heap.size + 1 + 1 ≠ w.heap.size by omega) (bs S)
      have r0' : Row (w1.drew.setRow w.heap.size (bs S)) w.heap.size (bs S) 29 := r0.set (bs S)
      have hb2 : Below w.heap.size w (w1.drew.setRow w.heap.size (bs S)) := below_setRow hb1.drew (by omega) _
      clear r0 r1 r2 hb1
      generalize w1.drew.setRow w.heap.size (bs S) = w2 at r0' r2' hb2 ⊢
      go_wp2_with (first
        | (refine load_row rfl 29 (.tmp 3) rfl w.heap.size rfl 29 (bs S) r0' 256 5 Try.underlying29 size29 (by rw [bs_size, hl]) ?_)
        | (refine store_row rfl 29 (.tmp 6) (.tmp 14) rfl (w.heap.size + 1 + 1) S rfl rfl 29 _ r2' 256 size29 (by rw [bs_size, zs_length]) hl ?_))
      refine bodyPost_ret (v := .agg (bs S)) ?_ rfl ⟨rfl, below_setRow hb2 (by omega) _⟩
      exact ret_row (fn := Try.f40) rfl _ _ (w.heap.size + 1 + 1) 29 (bs S) 256 5 rfl (r2'.set _) Try.underlying29 size29 (by rw [bs_size, hl])

theorem lay_out (b s : List Int) (hb : b.length = 256) (i : Int) (hi : ¬ (0 ≤ i ∧ i < 4)) (w : World) :
    Calls Try.prog 40 #[.agg (bs b), .int .i64 i, .agg (bs s)] w fun e w' => e = .returned (.agg (bs b)) ∧ Below w.heap.size w w' := by
  have hz := zero29
  have e : decide (0 ≤ i ∧ i < 4) = false := by simp only [decide_eq_false_iff_not]; exact hi
  have r0 : Row (((w.alloc (Obj.cells (bs b) 29)).alloc (Obj.cells (bs s) 81)).alloc (Obj.cells (bs (zs 256)) 29)) w.heap.size (bs b) 29 := ((Row.new _ _ _).alloc _).alloc _
  have r2 : Row (((w.alloc (Obj.cells (bs b) 29)).alloc (Obj.cells (bs s) 81)).alloc (Obj.cells (bs (zs 256)) 29)) (w.heap.size + 1 + 1) (bs (zs 256)) 29 := by have := (Row.new ((w.alloc (Obj.cells (bs b) 29)).alloc (Obj.cells (bs s) 81)) (bs (zs 256)) 29); simpa using this
  have hb2 : Below w.heap.size w (((w.alloc (Obj.cells (bs b) 29)).alloc (Obj.cells (bs s) 81)).alloc (Obj.cells (bs (zs 256)) 29)) := ((((Below.refl _ _).alloc (Nat.le_refl _) _).alloc (by simp) _).alloc (by simp; omega) _)
  go_enter Try.func40, Try.ntmps40
  go_wp2_with (first
      | (go_at_call 48; refine (within_any _ _).mono ?_; rw [e]; rintro e w' ⟨rfl, rfl⟩)
      | (refine load_row rfl 29 (.tmp 3) rfl w.heap.size rfl 29 (bs b) r0 256 5 Try.underlying29 size29 (by rw [bs_size, hb]) ?_)
      | (refine store_row rfl 29 (.tmp 6) (.tmp 14) rfl (w.heap.size + 1 + 1) b rfl rfl 29 _ r2 256 size29 (by rw [bs_size, zs_length]) hb ?_))
  refine bodyPost_ret (v := .agg (bs b)) ?_ rfl ⟨rfl, below_setRow hb2 (by omega) _⟩
  exact ret_row (fn := Try.f40) rfl _ _ (w.heap.size + 1 + 1) 29 (bs b) 256 5 rfl (r2.set _) Try.underlying29 size29 (by rw [bs_size, hb])
end Go.Proofs.Ytcbjjofckhohjaa.Sl
