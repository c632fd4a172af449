/-
  Proved here: the document's Compose (varveref03) of two texts tells the same text as delta.Compose's, or that one is no delta.
-/
import Derived.Test.YtdopghiconcjlaaRpieces
import Derived.Test.YtdopghiconcjlaaRapply
import Derived.Test.YtdopghiconcjlaaThree
namespace Go.Proofs.Ytdopghiconcjlaa
open Go.ChangeShapes Go.WideShapes Go.ChangeAt Go.RowKit
set_option linter.unusedVariables false
set_option linter.unusedSimpArgs false

/-- The first one's places, and of the first k those of the second one. -/
def mixH (G H : List Bool) (k : Nat) : List Bool := bf 64 fun j => G.getD j false || (decide (j < k) && H.getD j false)
theorem mixH_length (G H : List Bool) (k : Nat) : (mixH G H k).length = 64 := bf_length _ _
theorem mixH_zero (G H : List Bool) (hG : G.length = 64) : G = mixH G H 0 := by
  apply eq_bf _ _ _ hG
  intro j hj
  simp
theorem mixH_on (G H : List Bool) (k : Nat) (h : H.getD k false = true) : (mixH G H k).set k true = mixH G H (k + 1) := by
  unfold mixH
  rw [set_bf]
  apply bf_congr
  intro j hj
  by_cases e : j = k
  · subst e
    rw [if_pos rfl, h]
    simp
  · rw [if_neg e]
    congr 2
    apply decide_eq_decide.2
    omega
theorem mixH_off (G H : List Bool) (k : Nat) (h : H.getD k false = false) : mixH G H k = mixH G H (k + 1) := by
  unfold mixH
  apply bf_congr
  intro j hj
  by_cases e : j = k
  · subst e; rw [h]; simp
  · congr 2
    apply decide_eq_decide.2
    omega
theorem mixH_whole (p q : List (Nat × List Int)) : mixH (hasAll fs p) (hasAll fs q) 64 = hasAll fs (p ++ q) := by
  apply same_places _ _ (mixH_length _ _ _) (hasAll_length fs fs_length _)
  intro j hj
  unfold mixH
  rw [bf_at _ _ _ hj, has_cover (p ++ q) j hj, cover_append, ← has_cover p j hj, ← has_cover q j hj]
  simp [hj]
def rcomposed (d e : ByteArray) : Value :=
  match pieces d, pieces e with
  | some p, some q => .tuple #[.string (strOfNums (tell (applyAll (zs 64) (p ++ q)) (hasAll fs (p ++ q)))), .bool true]
  | _, _ => .tuple #[.string ⟨#[]⟩, .bool false]
/-- What Read answers, by its parts. -/
theorem readV_is (s : ByteArray) : ∃ A H B, readV s = .tuple #[.agg (bs A), .agg (bl H), .bool B] ∧ A.length = 64 ∧ H.length = 64 ∧ B = (pieces s).isSome ∧ ∀ ps, pieces s = some ps → A = applyAll (zs 64) ps ∧ H = hasAll fs ps := by
  unfold readV
  cases h : pieces s with
  | none => exact ⟨_, _, _, rfl, zs_length _, fs_length, rfl, fun ps h => by cases h⟩
  | some ps => exact ⟨_, _, _, rfl, applyAll_length _ (zs_length _) _ (pieces_ok s ps h).1, hasAll_length fs fs_length _, rfl, fun qs h => by cases h; exact ⟨rfl, rfl⟩⟩
/-- A pair of variables is made and filled. -/
theorem two_new {w : World} (A : List Int) (H : List Bool) :
    Row (((w.alloc (.cells (bs (zs 64)) 22)).alloc (.cells (bl fs) 42)).setRow w.heap.size (bs A)) w.heap.size (bs A) 22 ∧
    Row (((w.alloc (.cells (bs (zs 64)) 22)).alloc (.cells (bl fs) 42)).setRow w.heap.size (bs A)) (w.heap.size + 1) (bl fs) 42 := by
  refine ⟨((Row.new w (bs (zs 64)) 22).alloc (.cells (bl fs) 42)).set (bs A), ?_⟩
  have := (Row.new (w.alloc (.cells (bs (zs 64)) 22)) (bl fs) 42).other (show (w.alloc (.cells (bs (zs 64)) 22)).heap.size ≠ w.heap.size by simp) (bs A); simpa using this

set_option maxHeartbeats 2000000 in
theorem rcompose_bad (d e : ByteArray) (hd : Hid (d.size ≤ maxLen)) (he : Hid (e.size ≤ maxLen)) (A1 A2 : List Int) (H1 H2 : List Bool) (B1 B2 : Bool) (hA1 : A1.length = 64) (hA2 : A2.length = 64) (hH1 : H1.length = 64) (hH2 : H2.length = 64)
    (V1 : Hid (readV d = .tuple #[.agg (bs A1), .agg (bl H1), .bool B1])) (V2 : Hid (readV e = .tuple #[.agg (bs A2), .agg (bl H2), .bool B2])) (hB : B1 = false ∨ B1 = true ∧ B2 = false) (w : World) :
    Calls Try.prog 16 #[.string d, .string e] w fun x w' => x = .returned (.tuple #[.string ⟨#[]⟩, .bool false]) ∧ Below w.heap.size w w' := by
  have hz := zero22
  have hz' := zero42
  have t1 : Hid (1 = 1) := rfl
  rcases hB with rfl | ⟨rfl, rfl⟩
  · go_enter Try.func16, Try.ntmps16
    go_wp2_with (first
      | (have hh := t1; clear hh t1; go_at_call 22; refine (read_any d hd.out _).mono ?_; rw [V1.out]; rintro x w1 ⟨rfl, b1⟩
         have l1 := b1.size)
      | (refine store_cells rfl 22 (.tmp 6) (.tmp 16) rfl w1.heap.size (bs A1) rfl rfl 22 (bs (zs 64)) ((Row.new w1 (bs (zs 64)) 22).alloc _) 64 size22 (by rw [bs_size, zs_length]) (by rw [bs_size, hA1]) (bs_one _) ?_
         have c0 := (two_new (w := w1) A1 H1).1
         have c1 := (two_new (w := w1) A1 H1).2
         have cb := below_setRow ((b1.alloc l1 (.cells (bs (zs 64)) 22)).alloc (by simp; omega) (.cells (bl fs) 42)) l1 (bs A1)
         have cl : w1.heap.size + 1 < (((w1.alloc (.cells (bs (zs 64)) 22)).alloc (.cells (bl fs) 42)).setRow w1.heap.size (bs A1)).heap.size := c1.lt
         generalize ((w1.alloc (.cells (bs (zs 64)) 22)).alloc (.cells (bl fs) 42)).setRow w1.heap.size (bs A1) = w2 at c0 c1 cb cl ⊢
         clear b1)
      | (refine store_cells rfl 42 (.tmp 7) (.tmp 17) rfl (w1.heap.size + 1) (bl H1) rfl rfl 42 (bl fs) c1 64 size42 (by rw [bl_size, fs_length]) (by rw [bl_size, hH1]) (bl_one _) ?_
         have d0 := c0.other (show w1.heap.size ≠ w1.heap.size + 1 by omega) (bl H1)
         have d1 := c1.set (bl H1)
         have db := below_setRow cb (show w.heap.size ≤ w1.heap.size + 1 by omega) (bl H1)
         have dl : w1.heap.size + 1 < (w2.setRow (w1.heap.size + 1) (bl H1)).heap.size := d1.lt
         have t2 : Hid (1 = 1) := rfl
         generalize w2.setRow (w1.heap.size + 1) (bl H1) = w3 at d0 d1 db dl ⊢
         clear c0 c1 cb cl)
      | (have hh := t2; clear hh t2; go_at_call 22; refine (read_any e he.out _).mono ?_; rw [V2.out]; rintro x w4 ⟨rfl, h4⟩
         have f0 := d0.below h4 d0.lt
         have f1 := d1.below h4 d1.lt
         have fb := db.trans (h4.mono (show w.heap.size ≤ w3.heap.size by omega))
         have fl1 := f1.lt
         have t3 : Hid (1 = 1) := rfl
         clear d0 d1 db dl h4)
      | (have hh := t3; clear hh t3; refine store_cells rfl 22 (.tmp 9) (.tmp 22) rfl w4.heap.size (bs A2) rfl rfl 22 (bs (zs 64)) ((Row.new w4 (bs (zs 64)) 22).alloc _) 64 size22 (by rw [bs_size, zs_length]) (by rw [bs_size, hA2]) (bs_one _) ?_
         have g0 := ((f0.alloc (.cells (bs (zs 64)) 22)).alloc (.cells (bl fs) 42)).other (Nat.ne_of_lt f0.lt) (bs A2)
         have g1 := ((f1.alloc (.cells (bs (zs 64)) 22)).alloc (.cells (bl fs) 42)).other (Nat.ne_of_lt f1.lt) (bs A2)
         have g2 := (two_new (w := w4) A2 H2).1
         have g3 := (two_new (w := w4) A2 H2).2
         have gb := below_setRow ((fb.alloc (show w.heap.size ≤ w4.heap.size by omega) (.cells (bs (zs 64)) 22)).alloc (by simp; omega) (.cells (bl fs) 42)) (show w.heap.size ≤ w4.heap.size by omega) (bs A2)
         have t4 : Hid (1 = 1) := rfl
         generalize ((w4.alloc (.cells (bs (zs 64)) 22)).alloc (.cells (bl fs) 42)).setRow w4.heap.size (bs A2) = w5 at g0 g1 g2 g3 gb ⊢
         clear f0 f1 fb)
      | (have hh := t4; clear hh t4; refine store_cells rfl 42 (.tmp 10) (.tmp 23) rfl (w4.heap.size + 1) (bl H2) rfl rfl 42 (bl fs) g3 64 size42 (by rw [bl_size, fs_length]) (by rw [bl_size, hH2]) (bl_one _) ?_
         have i0 := g0.other (show w1.heap.size ≠ w4.heap.size + 1 by omega) (bl H2)
         have i1 := g1.other (show w1.heap.size + 1 ≠ w4.heap.size + 1 by omega) (bl H2)
         have i2 := g2.other (show w4.heap.size ≠ w4.heap.size + 1 by omega) (bl H2)
         have i3 := g3.set (bl H2)
         have ib := below_setRow gb (show w.heap.size ≤ w4.heap.size + 1 by omega) (bl H2)
         generalize w5.setRow (w4.heap.size + 1) (bl H2) = w6 at i0 i1 i2 i3 ib ⊢
         clear g0 g1 g2 g3 gb))
    go_ret2
    exact ⟨rfl, ib⟩
  · go_enter Try.func16, Try.ntmps16
    go_wp2_with (first
      | (have hh := t1; clear hh t1; go_at_call 22; refine (read_any d hd.out _).mono ?_; rw [V1.out]; rintro x w1 ⟨rfl, b1⟩
         have l1 := b1.size)
      | (refine store_cells rfl 22 (.tmp 6) (.tmp 16) rfl w1.heap.size (bs A1) rfl rfl 22 (bs (zs 64)) ((Row.new w1 (bs (zs 64)) 22).alloc _) 64 size22 (by rw [bs_size, zs_length]) (by rw [bs_size, hA1]) (bs_one _) ?_
         have c0 := (two_new (w := w1) A1 H1).1
         have c1 := (two_new (w := w1) A1 H1).2
         have cb := below_setRow ((b1.alloc l1 (.cells (bs (zs 64)) 22)).alloc (by simp; omega) (.cells (bl fs) 42)) l1 (bs A1)
         have cl : w1.heap.size + 1 < (((w1.alloc (.cells (bs (zs 64)) 22)).alloc (.cells (bl fs) 42)).setRow w1.heap.size (bs A1)).heap.size := c1.lt
         generalize ((w1.alloc (.cells (bs (zs 64)) 22)).alloc (.cells (bl fs) 42)).setRow w1.heap.size (bs A1) = w2 at c0 c1 cb cl ⊢
         clear b1)
      | (refine store_cells rfl 42 (.tmp 7) (.tmp 17) rfl (w1.heap.size + 1) (bl H1) rfl rfl 42 (bl fs) c1 64 size42 (by rw [bl_size, fs_length]) (by rw [bl_size, hH1]) (bl_one _) ?_
         have d0 := c0.other (show w1.heap.size ≠ w1.heap.size + 1 by omega) (bl H1)
         have d1 := c1.set (bl H1)
         have db := below_setRow cb (show w.heap.size ≤ w1.heap.size + 1 by omega) (bl H1)
         have dl : w1.heap.size + 1 < (w2.setRow (w1.heap.size + 1) (bl H1)).heap.size := d1.lt
         have t2 : Hid (1 = 1) := rfl
         generalize w2.setRow (w1.heap.size + 1) (bl H1) = w3 at d0 d1 db dl ⊢
         clear c0 c1 cb cl)
      | (have hh := t2; clear hh t2; go_at_call 22; refine (read_any e he.out _).mono ?_; rw [V2.out]; rintro x w4 ⟨rfl, h4⟩
         have f0 := d0.below h4 d0.lt
         have f1 := d1.below h4 d1.lt
         have fb := db.trans (h4.mono (show w.heap.size ≤ w3.heap.size by omega))
         have fl1 := f1.lt
         have t3 : Hid (1 = 1) := rfl
         clear d0 d1 db dl h4)
      | (have hh := t3; clear hh t3; refine store_cells rfl 22 (.tmp 9) (.tmp 22) rfl w4.heap.size (bs A2) rfl rfl 22 (bs (zs 64)) ((Row.new w4 (bs (zs 64)) 22).alloc _) 64 size22 (by rw [bs_size, zs_length]) (by rw [bs_size, hA2]) (bs_one _) ?_
         have g0 := ((f0.alloc (.cells (bs (zs 64)) 22)).alloc (.cells (bl fs) 42)).other (Nat.ne_of_lt f0.lt) (bs A2)
         have g1 := ((f1.alloc (.cells (bs (zs 64)) 22)).alloc (.cells (bl fs) 42)).other (Nat.ne_of_lt f1.lt) (bs A2)
         have g2 := (two_new (w := w4) A2 H2).1
         have g3 := (two_new (w := w4) A2 H2).2
         have gb := below_setRow ((fb.alloc (show w.heap.size ≤ w4.heap.size by omega) (.cells (bs (zs 64)) 22)).alloc (by simp; omega) (.cells (bl fs) 42)) (show w.heap.size ≤ w4.heap.size by omega) (bs A2)
         have t4 : Hid (1 = 1) := rfl
         generalize ((w4.alloc (.cells (bs (zs 64)) 22)).alloc (.cells (bl fs) 42)).setRow w4.heap.size (bs A2) = w5 at g0 g1 g2 g3 gb ⊢
         clear f0 f1 fb)
      | (have hh := t4; clear hh t4; refine store_cells rfl 42 (.tmp 10) (.tmp 23) rfl (w4.heap.size + 1) (bl H2) rfl rfl 42 (bl fs) g3 64 size42 (by rw [bl_size, fs_length]) (by rw [bl_size, hH2]) (bl_one _) ?_
         have i0 := g0.other (show w1.heap.size ≠ w4.heap.size + 1 by omega) (bl H2)
         have i1 := g1.other (show w1.heap.size + 1 ≠ w4.heap.size + 1 by omega) (bl H2)
         have i2 := g2.other (show w4.heap.size ≠ w4.heap.size + 1 by omega) (bl H2)
         have i3 := g3.set (bl H2)
         have ib := below_setRow gb (show w.heap.size ≤ w4.heap.size + 1 by omega) (bl H2)
         generalize w5.setRow (w4.heap.size + 1) (bl H2) = w6 at i0 i1 i2 i3 ib ⊢
         clear g0 g1 g2 g3 gb))
    go_ret2
    exact ⟨rfl, ib⟩

set_option maxHeartbeats 2000000 in
theorem rcompose_good (d e : ByteArray) (hd : Hid (d.size ≤ maxLen)) (he : Hid (e.size ≤ maxLen)) (A1 A2 : List Int) (H1 H2 : List Bool) (hA1 : A1.length = 64) (hA2 : A2.length = 64) (hH1 : H1.length = 64) (hH2 : H2.length = 64) (yA : Bytes (mixB A1 A2 H2 64))
    (V1 : Hid (readV d = .tuple #[.agg (bs A1), .agg (bl H1), .bool true])) (V2 : Hid (readV e = .tuple #[.agg (bs A2), .agg (bl H2), .bool true])) (w : World) :
    Calls Try.prog 16 #[.string d, .string e] w fun x w' => x = .returned (.tuple #[.string (strOfNums (tell (mixB A1 A2 H2 64) (mixH H1 H2 64))), .bool true]) ∧ Below w.heap.size w w' := by
  have hz := zero22
  have hz' := zero42
  have t1 : Hid (1 = 1) := rfl
  · go_enter Try.func16, Try.ntmps16
    go_wp2_with (first
      | (have hh := t1; clear hh t1; go_at_call 22; refine (read_any d hd.out _).mono ?_; rw [V1.out]; rintro x w1 ⟨rfl, b1⟩
         have l1 := b1.size)
      | (refine store_cells rfl 22 (.tmp 6) (.tmp 16) rfl w1.heap.size (bs A1) rfl rfl 22 (bs (zs 64)) ((Row.new w1 (bs (zs 64)) 22).alloc _) 64 size22 (by rw [bs_size, zs_length]) (by rw [bs_size, hA1]) (bs_one _) ?_
         have c0 := (two_new (w := w1) A1 H1).1
         have c1 := (two_new (w := w1) A1 H1).2
         have cb := below_setRow ((b1.alloc l1 (.cells (bs (zs 64)) 22)).alloc (by simp; omega) (.cells (bl fs) 42)) l1 (bs A1)
         have cl : w1.heap.size + 1 < (((w1.alloc (.cells (bs (zs 64)) 22)).alloc (.cells (bl fs) 42)).setRow w1.heap.size (bs A1)).heap.size := c1.lt
         generalize ((w1.alloc (.cells (bs (zs 64)) 22)).alloc (.cells (bl fs) 42)).setRow w1.heap.size (bs A1) = w2 at c0 c1 cb cl ⊢
         clear b1)
      | (refine store_cells rfl 42 (.tmp 7) (.tmp 17) rfl (w1.heap.size + 1) (bl H1) rfl rfl 42 (bl fs) c1 64 size42 (by rw [bl_size, fs_length]) (by rw [bl_size, hH1]) (bl_one _) ?_
         have d0 := c0.other (show w1.heap.size ≠ w1.heap.size + 1 by omega) (bl H1)
         have d1 := c1.set (bl H1)
         have db := below_setRow cb (show w.heap.size ≤ w1.heap.size + 1 by omega) (bl H1)
         have dl : w1.heap.size + 1 < (w2.setRow (w1.heap.size + 1) (bl H1)).heap.size := d1.lt
         have t2 : Hid (1 = 1) := rfl
         generalize w2.setRow (w1.heap.size + 1) (bl H1) = w3 at d0 d1 db dl ⊢
         clear c0 c1 cb cl)
      | (have hh := t2; clear hh t2; go_at_call 22; refine (read_any e he.out _).mono ?_; rw [V2.out]; rintro x w4 ⟨rfl, h4⟩
         have f0 := d0.below h4 d0.lt
         have f1 := d1.below h4 d1.lt
         have fb := db.trans (h4.mono (show w.heap.size ≤ w3.heap.size by omega))
         have fl1 := f1.lt
         have t3 : Hid (1 = 1) := rfl
         clear d0 d1 db dl h4)
      | (have hh := t3; clear hh t3; refine store_cells rfl 22 (.tmp 9) (.tmp 22) rfl w4.heap.size (bs A2) rfl rfl 22 (bs (zs 64)) ((Row.new w4 (bs (zs 64)) 22).alloc _) 64 size22 (by rw [bs_size, zs_length]) (by rw [bs_size, hA2]) (bs_one _) ?_
         have g0 := ((f0.alloc (.cells (bs (zs 64)) 22)).alloc (.cells (bl fs) 42)).other (Nat.ne_of_lt f0.lt) (bs A2)
         have g1 := ((f1.alloc (.cells (bs (zs 64)) 22)).alloc (.cells (bl fs) 42)).other (Nat.ne_of_lt f1.lt) (bs A2)
         have g2 := (two_new (w := w4) A2 H2).1
         have g3 := (two_new (w := w4) A2 H2).2
         have gb := below_setRow ((fb.alloc (show w.heap.size ≤ w4.heap.size by omega) (.cells (bs (zs 64)) 22)).alloc (by simp; omega) (.cells (bl fs) 42)) (show w.heap.size ≤ w4.heap.size by omega) (bs A2)
         have t4 : Hid (1 = 1) := rfl
         generalize ((w4.alloc (.cells (bs (zs 64)) 22)).alloc (.cells (bl fs) 42)).setRow w4.heap.size (bs A2) = w5 at g0 g1 g2 g3 gb ⊢
         clear f0 f1 fb)
      | (have hh := t4; clear hh t4; refine store_cells rfl 42 (.tmp 10) (.tmp 23) rfl (w4.heap.size + 1) (bl H2) rfl rfl 42 (bl fs) g3 64 size42 (by rw [bl_size, fs_length]) (by rw [bl_size, hH2]) (bl_one _) ?_
         have i0 := g0.other (show w1.heap.size ≠ w4.heap.size + 1 by omega) (bl H2)
         have i1 := g1.other (show w1.heap.size + 1 ≠ w4.heap.size + 1 by omega) (bl H2)
         have i2 := g2.other (show w4.heap.size ≠ w4.heap.size + 1 by omega) (bl H2)
         have i3 := g3.set (bl H2)
         have ib := below_setRow gb (show w.heap.size ≤ w4.heap.size + 1 by omega) (bl H2)
         generalize w5.setRow (w4.heap.size + 1) (bl H2) = w6 at i0 i1 i2 i3 ib ⊢
         clear g0 g1 g2 g3 gb))
    obtain ⟨g, hg⟩ : ∃ g, g = w1.heap.size := ⟨_, rfl⟩
    obtain ⟨h, hh⟩ : ∃ h, h = w4.heap.size := ⟨_, rfl⟩
    rw [← hg] at i0 i1 l1 fl1 ⊢
    rw [← hh] at i2 i3 fl1 ⊢
    clear hg hh
    go_loopw [12] (fun i wr => ∃ k : Nat, k ≤ 64 ∧ i = .int .i64 k ∧ Row wr g (bs (mixB A1 A2 H2 k)) 22 ∧ Row wr (g + 1) (bl (mixH H1 H2 k)) 42 ∧ Row wr h (bs A2) 22 ∧ Row wr (h + 1) (bl H2) 42 ∧ Below w.heap.size w wr) (fun i _ => 64 - (intOf i).toNat)
    case atStart => exact ⟨0, by omega, rfl, by rw [← mixB_zero A1 A2 H2 hA1]; exact i0, by rw [← mixH_zero H1 H2 hH1]; exact i1, i2, i3, ib⟩
    case round =>
      clear i0 i1 i2 i3 ib
      obtain ⟨k, hk, rfl, r0, r1, r2, r3, rb⟩ := hrel
      by_cases hlt : k < 64
      · have ch := brow_cell r3 k (by omega)
        by_cases hH : H2.getD k false = true
        · rw [hH] at ch
          have cx := row_cell r2 k (by omega)
          have c0 := row_cell r0 k (by rw [mixB_length]; omega)
          have f0 := row_frozen r0 k
          have z0 := row_setCell r0 k (A2.getD k 0)
          rw [mixB_on A1 A2 H2 k hH] at z0
          obtain ⟨x, HX⟩ : ∃ x, Hid (A2.getD k 0 = x) := ⟨_, rfl⟩
          rw [HX.out] at cx z0
          have z1 := row_setCell_other r1 (show g + 1 ≠ g by omega) k (.int .u8 x)
          have z2 := row_setCell_other r2 (show h ≠ g by omega) k (.int .u8 x)
          have z3 := row_setCell_other r3 (show h + 1 ≠ g by omega) k (.int .u8 x)
          have zb := rb.setCell (p := ⟨g, k, none⟩) (by show w.heap.size ≤ g; omega) (.int .u8 x)
          have c1 := brow_cell z1 k (by rw [mixH_length]; omega)
          have f1 := row_frozen z1 k
          have y1 := brow_setCell z1 k true
          rw [mixH_on H1 H2 k hH] at y1
          have y0 := row_setCell_other z0 (show g ≠ g + 1 by omega) k (.bool true)
          have y2 := row_setCell_other z2 (show h ≠ g + 1 by omega) k (.bool true)
          have y3 := row_setCell_other z3 (show h + 1 ≠ g + 1 by omega) k (.bool true)
          have yb := zb.setCell (p := ⟨g + 1, k, none⟩) (by show w.heap.size ≤ g + 1; omega) (.bool true)
          generalize (mixB A1 A2 H2 k).getD k 0 = q0 at c0
          generalize (mixH H1 H2 k).getD k false = q1 at c1
          go_wp2
          go_roundw
          case rel => exact ⟨k + 1, by omega, by go_num, y0, y1, y2, y3, yb⟩
          case measure => simp [intOf]; omega
        · have hH' : H2.getD k false = false := by simpa using hH
          rw [hH'] at ch
          rw [mixB_off A1 A2 H2 k hH'] at r0
          rw [mixH_off H1 H2 k hH'] at r1
          go_wp2
          go_roundw
          case rel => exact ⟨k + 1, by omega, by go_num, r0, r1, r2, r3, rb⟩
          case measure => simp [intOf]; omega
      · have e4 : k = 64 := by omega
        subst e4
        have hl := mixB_length A1 A2 H2 64
        have hm := mixH_length H1 H2 64
        obtain ⟨Z, HZ⟩ : ∃ Z, Hid (mixB A1 A2 H2 64 = Z) := ⟨_, rfl⟩
        obtain ⟨W, HW⟩ : ∃ W, Hid (mixH H1 H2 64 = W) := ⟨_, rfl⟩
        rw [HZ.out] at r0 hl yA
        rw [HW.out] at r1 hm
        go_wp2_with (first
          | (refine load_row rfl 22 (.tmp 6) rfl g rfl 22 (bs Z) r0 64 5 Try.underlying22 size22 (by rw [bs_size, hl]) ?_)
          | (refine load_row rfl 42 (.tmp 7) rfl (g + 1) rfl 42 (bl W) r1 64 4 Try.underlying42 size42 (by rw [bl_size, hm]) ?_)
          | (go_at_call 19; refine (rpieces_any Z hl yA W hm _).mono ?_; rintro x w9 ⟨rfl, h9⟩))
        go_ret2
        exact ⟨by rw [HZ.out, HW.out]; rfl, rb.trans (h9.mono (by have := r0.lt; omega))⟩
end Go.Proofs.Ytdopghiconcjlaa
