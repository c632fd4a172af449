/-
  Proved here: the document's Apply (varveref03) makes of a body what the pieces of a text make, or tells that there are none.
-/
import Derived.Test.YtdopghiconcjlaaRead
namespace Go.Proofs.Ytdopghiconcjlaa
open Go.ChangeShapes Go.WideShapes Go.ChangeAt Go.RowKit
set_option linter.unusedVariables false
set_option linter.unusedSimpArgs false

/-- A body of which the first k places are gone through. -/
def mixB (b A : List Int) (H : List Bool) (k : Nat) : List Int := fl 64 fun j => if j < k ∧ H.getD j false = true then A.getD j 0 else b.getD j 0
theorem mixB_length (b A : List Int) (H : List Bool) (k : Nat) : (mixB b A H k).length = 64 := fl_length _ _
theorem mixB_zero (b A : List Int) (H : List Bool) (hb : b.length = 64) : b = mixB b A H 0 := by
  apply eq_fl _ _ _ hb
  intro j hj
  rw [if_neg (by omega)]
theorem mixB_on (b A : List Int) (H : List Bool) (k : Nat) (h : H.getD k false = true) : (mixB b A H k).set k (A.getD k 0) = mixB b A H (k + 1) := by
  unfold mixB
  rw [set_fl]
  apply eq_fl _ _ _ (fl_length _ _)
  intro j hj
  rw [fl_at _ _ _ hj]
  by_cases e : j = k
  · subst e; rw [if_pos rfl, if_pos ⟨by omega, h⟩]
  · rw [if_neg e]
    by_cases h2 : j < k ∧ H.getD j false = true
    · rw [if_pos h2, if_pos ⟨by omega, h2.2⟩]
    · rw [if_neg h2, if_neg (fun q => h2 ⟨by omega, q.2⟩)]
theorem mixB_off (b A : List Int) (H : List Bool) (k : Nat) (h : H.getD k false = false) : mixB b A H k = mixB b A H (k + 1) := by
  unfold mixB
  apply eq_fl _ _ _ (fl_length _ _)
  intro j hj
  rw [fl_at _ _ _ hj]
  by_cases h2 : j < k ∧ H.getD j false = true
  · rw [if_pos h2, if_pos ⟨by omega, h2.2⟩]
  · rw [if_neg h2, if_neg]
    rintro ⟨q1, q2⟩
    by_cases e : j = k
    · subst e; rw [h] at q2; cases q2
    · exact h2 ⟨by omega, q2⟩
theorem mixB_whole (b : List Int) (hb : b.length = 64) (ps : List (Nat × List Int)) (hf : Fits ps) : mixB b (applyAll (zs 64) ps) (hasAll fs ps) 64 = applyAll b ps := by
  apply same_list _ _ (mixB_length _ _ _ _) (applyAll_length b hb ps hf)
  intro j hj
  unfold mixB
  rw [fl_at _ _ _ hj, apply_has ps hf b hb j hj]
  by_cases h : (hasAll fs ps).getD j false = true
  · rw [if_pos ⟨hj, h⟩, if_pos h]
  · rw [if_neg (fun q => h q.2), if_neg h]
def rapplied (b : List Int) (s : ByteArray) : Value :=
  match pieces s with
  | some ps => .tuple #[.agg (bs (applyAll b ps)), .bool true]
  | none => .tuple #[.agg (bs (zs 64)), .bool false]

set_option maxHeartbeats 1000000 in
theorem rapply_any (b : List Int) (hb : b.length = 64) (s : ByteArray) (hs : s.size ≤ maxLen) (w : World) :
    Calls Try.prog 12 #[.agg (bs b), .string s] w fun e w' => e = .returned (rapplied b s) ∧ Below w.heap.size w w' := by
  have HS : Hid (s.size ≤ maxLen) := hs
  clear hs
  have hz := zero22
  have hz' := zero42
  have a0 : Row ((w.alloc (.cells (bs b) 22)).alloc (.cells (bs (zs 64)) 22)) w.heap.size (bs b) 22 := (Row.new _ _ _).alloc _
  have a1 : Row ((w.alloc (.cells (bs b) 22)).alloc (.cells (bs (zs 64)) 22)) (w.heap.size + 1) (bs (zs 64)) 22 := by have := Row.new (w.alloc (.cells (bs b) 22)) (bs (zs 64)) 22; simpa using this
  have ab : Below w.heap.size w ((w.alloc (.cells (bs b) 22)).alloc (.cells (bs (zs 64)) 22)) := ((Below.refl _ _).alloc (Nat.le_refl _) _).alloc (by simp) _
  cases hp : pieces s with
  | none =>
    have HO : Hid (rapplied b s = .tuple #[.agg (bs (zs 64)), .bool false]) := by show _ = _; unfold rapplied; rw [hp]
    have HV : Hid (readV s = .tuple #[.agg (bs (zs 64)), .agg (bl fs), .bool false]) := by show _ = _; unfold readV; rw [hp]
    clear hp
    go_enter Try.func12, Try.ntmps12
    go_wp2_with (first
      | (go_at_call 22; refine (read_any s HS.out _).mono ?_; rw [HV.out]; rintro e w1 ⟨rfl, h1⟩
         have b0 := a0.below h1 a0.lt
         have b1 := a1.below h1 a1.lt
         have bb := ab.trans (h1.mono (Nat.le_of_lt a0.lt))
         clear a0 a1 ab h1)
      | (refine store_cells rfl 22 (.tmp 6) (.tmp 13) rfl w1.heap.size (bs (zs 64)) rfl rfl 22 (bs (zs 64)) ((Row.new w1 (bs (zs 64)) 22).alloc _) 64 size22 (by rw [bs_size, zs_length]) (by rw [bs_size, zs_length]) (bs_one _) ?_
         have c1 := ((b1.alloc (.cells (bs (zs 64)) 22)).alloc (.cells (bl fs) 42)).other (Nat.ne_of_lt b1.lt) (bs (zs 64))
         have c3 : Row ((((w1.alloc (.cells (bs (zs 64)) 22)).alloc (.cells (bl fs) 42))).setRow w1.heap.size (bs (zs 64))) (w1.heap.size + 1) (bl fs) 42 := by
           have := (Row.new (w1.alloc (.cells (bs (zs 64)) 22)) (bl fs) 42).other (show (w1.alloc (.cells (bs (zs 64)) 22)).heap.size ≠ w1.heap.size by simp) (bs (zs 64)); simpa using this
         have cb := below_setRow ((bb.alloc (Nat.le_of_lt b0.lt) (.cells (bs (zs 64)) 22)).alloc (by simp; have := b0.lt; omega) (.cells (bl fs) 42)) (Nat.le_of_lt b0.lt) (bs (zs 64))
         have l1 := b1.lt
         generalize ((w1.alloc (.cells (bs (zs 64)) 22)).alloc (.cells (bl fs) 42)).setRow w1.heap.size (bs (zs 64)) = w2 at c1 c3 cb ⊢
         clear b0 b1 bb)
      | (refine store_cells rfl 42 (.tmp 7) (.tmp 14) rfl (w1.heap.size + 1) (bl fs) rfl rfl 42 (bl fs) c3 64 size42 (by rw [bl_size, fs_length]) (by rw [bl_size, fs_length]) (bl_one _) ?_
         have d1 := c1.other (show w.heap.size + 1 ≠ w1.heap.size + 1 by omega) (bl fs)
         have db := below_setRow cb (show w.heap.size ≤ w1.heap.size + 1 by omega) (bl fs)
         clear c1 c3 cb)
      | (refine build_none rfl 22 rfl (bs (zs 64)) built22 ?_)
      | (refine store_cells rfl 22 (.tmp 4) (.tmp 18) rfl (w.heap.size + 1) (bs (zs 64)) rfl rfl 22 (bs (zs 64)) d1 64 size22 (by rw [bs_size, zs_length]) (by rw [bs_size, zs_length]) (bs_one _) ?_))
    refine bodyPost_ret (v := .tuple #[.agg (bs (zs 64)), .bool false]) ?_ rfl ⟨by rw [HO.out], below_setRow db (by omega) _⟩
    exact ret_two (fn := Try.f12) rfl _ _ (w.heap.size + 1) 22 (bs (zs 64)) 64 5 _ rfl rfl (d1.set _) Try.underlying22 size22 (by rw [bs_size, zs_length])
  | some ps =>
    obtain ⟨hf, _⟩ := pieces_ok s ps hp
    have hO : rapplied b s = .tuple #[.agg (bs (applyAll b ps)), .bool true] := by unfold rapplied; rw [hp]
    have hV : readV s = .tuple #[.agg (bs (applyAll (zs 64) ps)), .agg (bl (hasAll fs ps)), .bool true] := by unfold readV; rw [hp]
    rw [← mixB_whole b hb ps hf] at hO
    have hAl := applyAll_length (zs 64) (zs_length _) ps hf
    have hHl := hasAll_length fs fs_length ps
    clear hp
    obtain ⟨A, HA⟩ : ∃ A, Hid (applyAll (zs 64) ps = A) := ⟨_, rfl⟩
    obtain ⟨H, HH⟩ : ∃ H, Hid (hasAll fs ps = H) := ⟨_, rfl⟩
    rw [HA.out, HH.out] at hO hV
    rw [HA.out] at hAl
    rw [HH.out] at hHl
    have HO := show Hid _ from hO
    have HV := show Hid _ from hV
    clear hO hV
    go_enter Try.func12, Try.ntmps12
    go_wp2_with (first
      | (go_at_call 22; refine (read_any s HS.out _).mono ?_; rw [HV.out]; rintro e w1 ⟨rfl, h1⟩
         have b0 := a0.below h1 a0.lt
         have b1 := a1.below h1 a1.lt
         have bb := ab.trans (h1.mono (Nat.le_of_lt a0.lt))
         clear a0 a1 ab h1)
      | (refine store_cells rfl 22 (.tmp 6) (.tmp 13) rfl w1.heap.size (bs A) rfl rfl 22 (bs (zs 64)) ((Row.new w1 (bs (zs 64)) 22).alloc _) 64 size22 (by rw [bs_size, zs_length]) (by rw [bs_size, hAl]) (bs_one _) ?_
         have c0 := ((b0.alloc (.cells (bs (zs 64)) 22)).alloc (.cells (bl fs) 42)).other (Nat.ne_of_lt b0.lt) (bs A)
         have c1 := ((b1.alloc (.cells (bs (zs 64)) 22)).alloc (.cells (bl fs) 42)).other (Nat.ne_of_lt b1.lt) (bs A)
         have c2 := ((Row.new w1 (bs (zs 64)) 22).alloc (.cells (bl fs) 42)).set (bs A)
         have c3 : Row ((((w1.alloc (.cells (bs (zs 64)) 22)).alloc (.cells (bl fs) 42))).setRow w1.heap.size (bs A)) (w1.heap.size + 1) (bl fs) 42 := by
           have := (Row.new (w1.alloc (.cells (bs (zs 64)) 22)) (bl fs) 42).other (show (w1.alloc (.cells (bs (zs 64)) 22)).heap.size ≠ w1.heap.size by simp) (bs A); simpa using this
         have cb := below_setRow ((bb.alloc (Nat.le_of_lt b0.lt) (.cells (bs (zs 64)) 22)).alloc (by simp; have := b0.lt; omega) (.cells (bl fs) 42)) (Nat.le_of_lt b0.lt) (bs A)
         have l1 := b1.lt
         generalize ((w1.alloc (.cells (bs (zs 64)) 22)).alloc (.cells (bl fs) 42)).setRow w1.heap.size (bs A) = w2 at c0 c1 c2 c3 cb ⊢
         clear b0 b1 bb)
      | (refine store_cells rfl 42 (.tmp 7) (.tmp 14) rfl (w1.heap.size + 1) (bl H) rfl rfl 42 (bl fs) c3 64 size42 (by rw [bl_size, fs_length]) (by rw [bl_size, hHl]) (bl_one _) ?_
         have d0 := c0.other (show w.heap.size ≠ w1.heap.size + 1 by omega) (bl H)
         have d1 := c1.other (show w.heap.size + 1 ≠ w1.heap.size + 1 by omega) (bl H)
         have d2 := c2.other (show w1.heap.size ≠ w1.heap.size + 1 by omega) (bl H)
         have d3 := c3.set (bl H)
         have db := below_setRow cb (show w.heap.size ≤ w1.heap.size + 1 by omega) (bl H)
         generalize w2.setRow (w1.heap.size + 1) (bl H) = w3 at d0 d1 d2 d3 db ⊢
         clear c0 c1 c2 c3 cb))
    obtain ⟨g, hg⟩ : ∃ g, g = w1.heap.size := ⟨_, rfl⟩
    rw [← hg] at d2 d3 l1 ⊢
    clear hg
    go_loopw [9] (fun i wr => ∃ k : Nat, k ≤ 64 ∧ i = .int .i64 k ∧ Row wr w.heap.size (bs (mixB b A H k)) 22 ∧ Row wr (w.heap.size + 1) (bs (zs 64)) 22 ∧ Row wr g (bs A) 22 ∧ Row wr (g + 1) (bl H) 42 ∧ Below w.heap.size w wr) (fun i _ => 64 - (intOf i).toNat)
    case atStart => exact ⟨0, by omega, rfl, by rw [← mixB_zero b A H hb]; exact d0, d1, d2, d3, db⟩
    case round =>
      clear d0 d1 d2 d3 db
      obtain ⟨k, hk, rfl, r0, r1, r2, r3, rb⟩ := hrel
      by_cases hlt : k < 64
      · have ch := brow_cell r3 k (by omega)
        by_cases hH : H.getD k false = true
        · rw [hH] at ch
          have cx := row_cell r2 k (by omega)
          have c0 := row_cell r0 k (by rw [mixB_length]; omega)
          have f0 := row_frozen r0 k
          have z0 := row_setCell r0 k (A.getD k 0)
          rw [mixB_on b A H k hH] at z0
          obtain ⟨x, HX⟩ : ∃ x, Hid (A.getD k 0 = x) := ⟨_, rfl⟩
          rw [HX.out] at cx z0
          have z1 := row_setCell_other r1 (show w.heap.size + 1 ≠ w.heap.size by omega) k (.int .u8 x)
          have z2 := row_setCell_other r2 (show g ≠ w.heap.size by omega) k (.int .u8 x)
          have z3 := row_setCell_other r3 (show g + 1 ≠ w.heap.size by omega) k (.int .u8 x)
          have zb := rb.setCell (p := ⟨w.heap.size, k, none⟩) (by show w.heap.size ≤ w.heap.size; omega) (.int .u8 x)
          generalize (mixB b A H k).getD k 0 = y at c0
          go_wp2
          go_roundw
          case rel => exact ⟨k + 1, by omega, by go_num, z0, z1, z2, z3, zb⟩
          case measure => simp [intOf]; omega
        · have hH' : H.getD k false = false := by simpa using hH
          rw [hH'] at ch
          rw [mixB_off b A H k hH'] at r0
          go_wp2
          go_roundw
          case rel => exact ⟨k + 1, by omega, by go_num, r0, r1, r2, r3, rb⟩
          case measure => simp [intOf]; omega
      · have e4 : k = 64 := by omega
        subst e4
        have hl := mixB_length b A H 64
        have HO2 := HO.out
        obtain ⟨Z, HZ⟩ : ∃ Z, Hid (mixB b A H 64 = Z) := ⟨_, rfl⟩
        rw [HZ.out] at r0 hl HO2
        have HO3 := show Hid _ from HO2
        clear HO2
        go_wp2_with (first
          | (refine load_row rfl 22 (.tmp 2) rfl w.heap.size rfl 22 (bs Z) r0 64 5 Try.underlying22 size22 (by rw [bs_size, hl]) ?_)
          | (refine store_row rfl 22 (.tmp 4) (.tmp 31) rfl (w.heap.size + 1) Z rfl rfl 22 _ r1 64 size22 (by rw [bs_size, zs_length]) hl ?_))
        refine bodyPost_ret (v := .tuple #[.agg (bs Z), .bool true]) ?_ rfl ⟨by rw [HO3.out], below_setRow rb (by omega) _⟩
        exact ret_two (fn := Try.f12) rfl _ _ (w.heap.size + 1) 22 (bs Z) 64 5 _ rfl rfl (r1.set _) Try.underlying22 size22 (by rw [bs_size, hl])
end Go.Proofs.Ytdopghiconcjlaa
