/-
  Proved here: the document's Cut and Lay of a block of four sectors.
-/
import Derived.Test.YtkgmhliocfbdfaaLst
namespace Go.Proofs.Ytkgmhliocfbdfaa
open Go.ChangeShapes Go.WideShapes Go.ChangeAt Go.RowKit
set_option linter.unusedVariables false
set_option linter.unusedSimpArgs false

theorem cut_getD (b : List Int) (i j : Nat) (hj : j < 64) : (cut b i).getD j 0 = b.getD (64 * i + j) 0 := by
  unfold cut
  simp only [List.getD]
  rw [List.getElem?_take, if_pos hj, List.getElem?_drop]
theorem cut_upto (b : List Int) (i : Nat) (hb : b.length = 256) (hi : i < 4) : upto 64 (fun j => b.getD (64 * i + j) 0) 64 = cut b i := by
  rw [upto_whole]
  symm
  apply eq_fl _ _ _ (cut_length b i hb hi)
  intro j hj
  exact cut_getD b i j hj

set_option maxRecDepth 20000 in
theorem rcut_in (b : List Int) (hb : b.length = 256) (i : Nat) (hi : i < 4) (w : World) :
    Calls Try.prog 33 #[.agg (bs b), .int .i64 i] w fun e w' => e = .returned (.agg (bs (cut b i))) ∧ Below w.heap.size w w' := by
  have hz := zero66
  rw [← cut_upto b i hb hi]
  have i0 : 0 ≤ (i : Int) := by omega
  have i3 : (i : Int) ≤ 3 := by omega
  go_enter Try.func33, Try.ntmps33
  go_wp2
  go_loopw [6] (fun c wr => ∃ k : Nat, k ≤ 64 ∧ c = .int .i64 k ∧ Row wr w.heap.size (bs b) 34 ∧ Row wr (w.heap.size + 1) (bs (zs 64)) 66 ∧ Row wr (w.heap.size + 1 + 1) (bs (upto 64 (fun j => b.getD (64 * i + j) 0) k)) 66 ∧ Below w.heap.size w wr) (fun i _ => 64 - (intOf i).toNat)
  case atStart =>
    refine ⟨0, by omega, rfl, ?_, ?_, ?_, ?_⟩
    · exact ((Row.new _ _ _).alloc _).alloc _
    · have := (Row.new (w.alloc (Obj.cells (bs b) 34)) (bs (zs 64)) 66).alloc (Obj.cells (bs (zs 64)) 66); simpa using this
    · have := (Row.new ((w.alloc (Obj.cells (bs b) 34)).alloc (Obj.cells (bs (zs 64)) 66)) (bs (zs 64)) 66); rw [← upto_zero]; simpa using this
    · exact ((((Below.refl _ _).alloc (Nat.le_refl _) _).alloc (by simp) _).alloc (by simp; omega) _)
  case round =>
    obtain ⟨k, hk, rfl, r0, r1, r2, hb2⟩ := hrel
    by_cases hlt : k < 64
    · have hc := row_cell r2 k (by rw [upto_length]; omega)
      have hf := row_frozen r2 k
      have hp1 := row_cell r0 (64 * i + k) (by omega)
      have z2 := row_setCell r2 k (b.getD (64 * i + k) 0)
      rw [upto_step 64 (fun j => b.getD (64 * i + j) 0) k] at z2
      obtain ⟨x, HX⟩ : ∃ x, Hid (b.getD (64 * i + k) 0 = x) := ⟨_, rfl⟩
      rw [HX.out] at hp1 z2
      have z0 := row_setCell_other r0 (show w.heap.size ≠ w.heap.size + 1 + 1 by omega) k (.int .u8 x)
      have z1 := row_setCell_other r1 (show w.heap.size + 1 ≠ w.heap.size + 1 + 1 by omega) k (.int .u8 x)
      have zb := hb2.setCell (p := ⟨w.heap.size + 1 + 1, k, none⟩) (by show w.heap.size ≤ w.heap.size + 1 + 1; omega) (.int .u8 x)
      generalize (upto 64 (fun j => b.getD (64 * i + j) 0) k).getD k 0 = y at hc
      go_wp2
      go_roundw
      case rel => exact ⟨k + 1, by omega, by go_num, z0, z1, z2, zb⟩
      case measure => simp [intOf]; omega
    · have e4 : k = 64 := by omega
      subst e4
      have hl := upto_length 64 (fun j => b.getD (64 * i + j) 0) 64
      obtain ⟨S, HS⟩ : ∃ S, Hid (upto 64 (fun j => b.getD (64 * i + j) 0) 64 = S) := ⟨_, rfl⟩
      rw [HS.out] at r2 hl
      go_wp2_with (first
        | (refine load_row rfl 66 (.tmp 5) rfl (w.heap.size + 1 + 1) rfl 66 (bs S) r2 64 5 Try.underlying66 size66 (by rw [bs_size, hl]) ?_)
        | (refine store_row rfl 66 (.tmp 4) (.tmp 26) rfl (w.heap.size + 1) S rfl rfl 66 _ r1 64 size66 (by rw [bs_size, zs_length]) hl ?_))
      refine bodyPost_ret (v := .agg (bs S)) ?_ rfl ⟨by rw [HS.out], below_setRow hb2 (by omega) _⟩
      exact ret_row (fn := Try.f33) rfl _ _ (w.heap.size + 1) 66 (bs S) 64 5 rfl (r1.set _) Try.underlying66 size66 (by rw [bs_size, hl])

/-- A block of whose sector i the first k bytes are laid anew. -/
def layN (b : List Int) (i : Nat) (s : List Int) (k : Nat) : List Int := fl 256 fun j => if 64 * i ≤ j ∧ j < 64 * i + k then s.getD (j - 64 * i) 0 else b.getD j 0
theorem layN_length (b : List Int) (i : Nat) (s : List Int) (k : Nat) : (layN b i s k).length = 256 := fl_length _ _
theorem layN_zero (b : List Int) (i : Nat) (s : List Int) (hb : b.length = 256) : b = layN b i s 0 := by
  apply eq_fl _ _ _ hb
  intro j hj
  rw [if_neg (by omega)]
theorem layN_step (b : List Int) (i : Nat) (s : List Int) (k : Nat) : (layN b i s k).set (64 * i + k) (s.getD k 0) = layN b i s (k + 1) := by
  unfold layN
  rw [set_fl]
  apply eq_fl _ _ _ (fl_length _ _)
  intro j hj
  rw [fl_at _ _ _ hj]
  by_cases e : j = 64 * i + k
  · subst e; rw [if_pos rfl, if_pos (by omega), show 64 * i + k - 64 * i = k by omega]
  · rw [if_neg e]
    by_cases h : 64 * i ≤ j ∧ j < 64 * i + k
    · rw [if_pos h, if_pos (by omega)]
    · rw [if_neg h, if_neg (by omega)]
theorem layN_whole (b : List Int) (i : Nat) (s : List Int) (hb : b.length = 256) (hs : s.length = 64) (hi : i < 4) : layN b i s 64 = lay b i s := by
  symm
  apply eq_fl _ _ _ (lay_length b i s hb hs hi)
  intro j hj
  unfold lay
  rw [splice_getD _ _ _ _ (by omega), hs]
  by_cases h : j < 64 * i
  · rw [if_pos h, if_neg (by omega)]
  · rw [if_neg h]
    by_cases h2 : j < 64 * i + 64
    · rw [if_pos h2, if_pos (by omega)]
    · rw [if_neg h2, if_neg (by omega)]

set_option maxRecDepth 20000 in
theorem rlay_in (b s : List Int) (hb : b.length = 256) (hs : s.length = 64) (i : Nat) (hi : i < 4) (w : World) :
    Calls Try.prog 42 #[.agg (bs b), .int .i64 i, .agg (bs s)] w fun e w' => e = .returned (.agg (bs (lay b i s))) ∧ Below w.heap.size w w' := by
  have hz := zero34
  rw [← layN_whole b i s hb hs hi]
  have i0 : 0 ≤ (i : Int) := by omega
  have i3 : (i : Int) < 4 := by omega
  go_enter Try.func42, Try.ntmps42
  go_wp2
  go_loopw [7] (fun c wr => ∃ k : Nat, k ≤ 64 ∧ c = .int .i64 k ∧ Row wr w.heap.size (bs (layN b i s k)) 34 ∧ Row wr (w.heap.size + 1) (bs s) 66 ∧ Row wr (w.heap.size + 1 + 1) (bs (zs 256)) 34 ∧ Below w.heap.size w wr) (fun i _ => 64 - (intOf i).toNat)
  case atStart =>
    refine ⟨0, by omega, rfl, ?_, ?_, ?_, ?_⟩
    · rw [← layN_zero b i s hb]; exact ((Row.new _ _ _).alloc _).alloc _
    · have := (Row.new (w.alloc (Obj.cells (bs b) 34)) (bs s) 66).alloc (Obj.cells (bs (zs 256)) 34); simpa using this
    · have := (Row.new ((w.alloc (Obj.cells (bs b) 34)).alloc (Obj.cells (bs s) 66)) (bs (zs 256)) 34); simpa using this
    · exact ((((Below.refl _ _).alloc (Nat.le_refl _) _).alloc (by simp) _).alloc (by simp; omega) _)
  case round =>
    obtain ⟨k, hk, rfl, r0, r1, r2, hb2⟩ := hrel
    by_cases hlt : k < 64
    · have hc := row_cell r0 (64 * i + k) (by rw [layN_length]; omega)
      have hf := row_frozen r0 (64 * i + k)
      have hp1 := row_cell r1 k (by omega)
      have z0 := row_setCell r0 (64 * i + k) (s.getD k 0)
      rw [layN_step b i s k] at z0
      obtain ⟨x, HX⟩ : ∃ x, Hid (s.getD k 0 = x) := ⟨_, rfl⟩
      rw [HX.out] at hp1 z0
      have z1 := row_setCell_other r1 (show w.heap.size + 1 ≠ w.heap.size by omega) (64 * i + k) (.int .u8 x)
      have z2 := row_setCell_other r2 (show w.heap.size + 1 + 1 ≠ w.heap.size by omega) (64 * i + k) (.int .u8 x)
      have zb := hb2.setCell (p := ⟨w.heap.size, 64 * i + k, none⟩) (by show w.heap.size ≤ w.heap.size; omega) (.int .u8 x)
      generalize (layN b i s k).getD (64 * i + k) 0 = y at hc
      go_wp2
      go_roundw
      case rel => exact ⟨k + 1, by omega, by go_num, z0, z1, z2, zb⟩
      case measure => simp [intOf]; omega
    · have e4 : k = 64 := by omega
      subst e4
      have hl := layN_length b i s 64
      obtain ⟨S, HS⟩ : ∃ S, Hid (layN b i s 64 = S) := ⟨_, rfl⟩
      rw [HS.out] at r0 hl
      go_wp2_with (first
        | (refine load_row rfl 34 (.tmp 3) rfl w.heap.size rfl 34 (bs S) r0 256 5 Try.underlying34 size34 (by rw [bs_size, hl]) ?_)
        | (refine store_row rfl 34 (.tmp 6) (.tmp 28) rfl (w.heap.size + 1 + 1) S rfl rfl 34 _ r2 256 size34 (by rw [bs_size, zs_length]) hl ?_))
      refine bodyPost_ret (v := .agg (bs S)) ?_ rfl ⟨by rw [HS.out], below_setRow hb2 (by omega) _⟩
      exact ret_row (fn := Try.f42) rfl _ _ (w.heap.size + 1 + 1) 34 (bs S) 256 5 rfl (r2.set _) Try.underlying34 size34 (by rw [bs_size, hl])
end Go.Proofs.Ytkgmhliocfbdfaa
