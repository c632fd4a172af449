/-
  Proved here: seal.Seal of a stamp and a payload of 224 bytes is the block that is laid sector by sector: a part of the payload and the eight bytes of the stamp.
-/
import Derived.Test.YtcbjjofckhohjaaSStamp
namespace Go.Proofs.Ytcbjjofckhohjaa.Sl
open Go.ChangeShapes Go.WideShapes Go.ChangeAt Go.RowKit
set_option linter.unusedVariables false
set_option linter.unusedSimpArgs false
set_option maxRecDepth 20000

theorem lay_at (b s : List Int) (hb : b.length = 256) (hs : s.length = 64) (i : Int) (k : Nat) (hk : k < 4) (hi : i = k) (r : List Int) (hr : lay b k s = r) (w : World) :
    Calls Try.prog 40 #[.agg (bs b), .int .i64 i, .agg (bs s)] w fun e w' => e = .returned (.agg (bs r)) ∧ Below w.heap.size w w' := by
  subst hi; subst hr; exact lay_in b s hb hs k hk w
/-- The sector i of a sealed block, of whose stamp k bytes are laid. -/
def secAt (v : Int) (p : List Int) (i k : Nat) : List Int := fl 64 fun j => if j < 56 then p.getD (56 * i + j) 0 else if j < 56 + k then byteOf v (j - 56) else 0
theorem secAt_length (v : Int) (p : List Int) (i k : Nat) : (secAt v p i k).length = 64 := fl_length _ _
theorem secAt_start (v : Int) (p : List Int) (i so : Nat) (hp : p.length = 224) (hi : i < 4) (hs : so = 56 * i) : splice (zs 64) 0 ((p.drop so).take 56) = secAt v p i 0 := by
  subst hs
  have hl : ((p.drop (56 * i)).take 56).length = 56 := by simp; omega
  apply eq_fl
  · rw [length_splice _ _ _ (by rw [hl, zs_length]; omega), zs_length]
  · intro j hj
    unfold splice
    rw [List.take_zero, List.nil_append, hl]
    by_cases h : j < 56
    · simp only [List.getD, if_pos h]
      rw [List.getElem?_append_left (by omega), List.getElem?_take, if_pos h, List.getElem?_drop]
    · rw [if_neg h, if_neg (by omega)]
      simp only [List.getD]
      rw [List.getElem?_append_right (by omega), hl, List.getElem?_drop]
      exact zs_at _ _
theorem secAt_step (v : Int) (p : List Int) (i k : Nat) : (secAt v p i k).set (56 + k) (byteOf v k) = secAt v p i (k + 1) := by
  unfold secAt
  rw [set_fl]
  apply eq_fl _ _ _ (fl_length _ _)
  intro j hj
  rw [fl_at _ _ _ hj]
  by_cases e : j = 56 + k
  · subst e; rw [if_pos rfl, if_neg (by omega), if_pos (by omega)]; congr 1; omega
  · rw [if_neg e]
    by_cases h : j < 56
    · rw [if_pos h, if_pos h]
    · rw [if_neg h, if_neg h]
      by_cases h2 : j < 56 + k
      · rw [if_pos h2, if_pos (by omega)]
      · rw [if_neg h2, if_neg (by omega)]
/-- A block of which k sectors are sealed. -/
def sealN (v : Int) (p : List Int) : Nat → List Int
  | 0 => zs 256
  | k + 1 => lay (sealN v p k) k (secAt v p k 8)
theorem sealN_length (v : Int) (p : List Int) : ∀ k, k ≤ 4 → (sealN v p k).length = 256
  | 0, _ => zs_length 256
  | k + 1, h => lay_length _ _ _ (sealN_length v p k (by omega)) (secAt_length _ _ _ _) (by omega)

theorem slice57 (g k : Nat) (hk : k < 4) (w : World) :
    (Instr.sliceAt 57 (.pointer (some ⟨g, 0, none⟩)) (some (.int .i64 (IntKind.i64.wrap ((k : Int) * 56)))) none none).run Try.prog w = .ok (.slice (some ⟨g, 56 * k, none⟩) (224 - 56 * k) (224 - 56 * k)) w := by
  have h : k = 0 ∨ k = 1 ∨ k = 2 ∨ k = 3 := by omega
  have e0 : IntKind.i64.wrap 0 = 0 := by decide
  have e1 : IntKind.i64.wrap 56 = 56 := by decide
  have e2 : IntKind.i64.wrap 112 = 112 := by decide
  have e3 : IntKind.i64.wrap 168 = 168 := by decide
  rcases h with rfl | rfl | rfl | rfl <;> simp [go_sem, e0, e1, e2, e3]
theorem min56 (k : Nat) (hk : k < 4) : 56 = Nat.min (224 - 56 * k) 56 := by
  have h : k = 0 ∨ k = 1 ∨ k = 2 ∨ k = 3 := by omega
  rcases h with rfl | rfl | rfl | rfl <;> decide

theorem seal_any (v : Int) (p : List Int) (hp : p.length = 224) (w : World) (hv : 0 ≤ v) (hv' : v ≤ 18446744073709551615) :
    Calls Try.prog 24 #[.int .u64 v, .agg (bs p)] w fun e w' => e = .returned (.agg (bs (sealN v p 4))) ∧ Below w.heap.size w w' := by
  have hz := zero29
  have hz' := zero81
  go_enter Try.func24, Try.ntmps24
  go_wp2
  go_loopw [9] (fun i wr => ∃ k : Nat, k ≤ 4 ∧ i = .int .i64 k ∧ Row wr w.heap.size (bs p) 57 ∧ Row wr (w.heap.size + 1) (bs (zs 256)) 29 ∧ Row wr (w.heap.size + 1 + 1) (bs (sealN v p k)) 29 ∧ Below w.heap.size w wr) (fun i _ => 4 - (intOf i).toNat)
  case atStart =>
    refine ⟨0, by omega, rfl, ?_, ?_, ?_, ?_⟩
    · exact ((Row.new _ _ _).alloc _).alloc _
    · have := (Row.new (w.alloc (Obj.cells (bs p) 57)) (bs (zs 256)) 29).alloc (Obj.cells (bs (zs 256)) 29); simpa using this
    · have := (Row.new ((w.alloc (Obj.cells (bs p) 57)).alloc (Obj.cells (bs (zs 256)) 29)) (bs (zs 256)) 29); simpa [sealN] using this
    · exact ((((Below.refl _ _).alloc (Nat.le_refl _) _).alloc (by simp) _).alloc (by simp; omega) _)
  case round =>
    obtain ⟨k, hk, rfl, r0, r1, r2, hb⟩ := hrel
    by_cases hlt : k < 4
    · have hk' : k = 0 ∨ k = 1 ∨ k = 2 ∨ k = 3 := by omega
      have hBl := sealN_length v p k (by omega)
      obtain ⟨B, HB⟩ : ∃ B, Hid (sealN v p k = B) := ⟨_, rfl⟩
      obtain ⟨F, HF⟩ : ∃ F : Nat → List Int, Hid (secAt v p k = F) := ⟨_, rfl⟩
      obtain ⟨N, HN⟩ : ∃ N, Hid (sealN v p (k + 1) = N) := ⟨_, rfl⟩
      have HF0 : Hid (∀ so, so = 56 * k → splice (zs 64) 0 ((p.drop so).take 56) = F 0) := by show _; intro so h; rw [← HF.out]; exact secAt_start v p k so hp hlt h
      have HFs : Hid (∀ j, (F j).set (56 + j) (byteOf v j) = F (j + 1)) := by show _; intro j; rw [← HF.out]; exact secAt_step v p k j
      have hFl : ∀ j, (F j).length = 64 := by intro j; rw [← HF.out]; exact secAt_length _ _ _ _
      have HL : Hid (lay B k (F 8) = N) := by show _ = _; rw [← HB.out, ← HF.out, ← HN.out]; rfl
      have hNl : N.length = 256 := by rw [← HN.out]; exact sealN_length v p _ (by omega)
      rw [HB.out] at r2 hBl
      clear hk'
      have hsl := slice57 w.heap.size k hlt
      · go_wp2
        obtain ⟨g, hg⟩ : ∃ g, g = wr.heap.size := ⟨_, rfl⟩
        have l2 := r2.lt
        have s0 := r0.alloc (Obj.cells (bs (zs 64)) 81)
        have s1 := r1.alloc (Obj.cells (bs (zs 64)) 81)
        have s2 := r2.alloc (Obj.cells (bs (zs 64)) 81)
        have s3 : Row (wr.alloc (Obj.cells (bs (zs 64)) 81)) g (bs (zs 64)) 81 := by rw [hg]; exact Row.new _ _ _
        have sb : Below w.heap.size w (wr.alloc (Obj.cells (bs (zs 64)) 81)) := hb.alloc (by omega) _
        rw [← hg]
        rw [← hg] at l2
        clear r0 r1 r2 hb hg
        generalize wr.alloc (Obj.cells (bs (zs 64)) 81) = wa at s0 s1 s2 s3 sb ⊢
        have hA : 0 + 56 ≤ (zs 64).length := by rw [zs_length]; decide
        go_region_law (refine step_copy rfl (.tmp 12) (.tmp 15) 58 58 rfl 5 Try.underlying58 size5 g 0 56 64 w.heap.size (56 * k) (224 - 56 * k) (224 - 56 * k) rfl rfl (zs 64) p 81 57 s3 s0 56 (min56 k hlt) hA (by omega) (F 0) (HF0.out _ rfl) ?_)
        have t0 : Row (wa.drew.setRow g (bs (F 0))) w.heap.size (bs p) 57 := s0.other (by omega) _
        have t1 : Row (wa.drew.setRow g (bs (F 0))) (w.heap.size + 1) (bs (zs 256)) 29 := s1.other (by omega) _
        have t2 : Row (wa.drew.setRow g (bs (F 0))) (w.heap.size + 1 + 1) (bs B) 29 := s2.other (by omega) _
        have t3 : Row (wa.drew.setRow g (bs (F 0))) g (bs (F 0)) 81 := s3.set _
        have tb : Below w.heap.size w (wa.drew.setRow g (bs (F 0))) := below_setRow sb.drew (by omega) _
        clear s0 s1 s2 s3 sb
        generalize wa.drew.setRow g (bs (F 0)) = wb at t0 t1 t2 t3 tb ⊢
        go_wp2
        go_loopw [17] (fun i wr => ∃ k : Nat, k ≤ 8 ∧ i = .int .i64 k ∧ Row wr w.heap.size (bs p) 57 ∧ Row wr (w.heap.size + 1) (bs (zs 256)) 29 ∧ Row wr (w.heap.size + 1 + 1) (bs B) 29 ∧ Row wr g (bs (F k)) 81 ∧ Below w.heap.size w wr) (fun i _ => 8 - (intOf i).toNat)
        case atStart => exact ⟨0, by omega, rfl, t0, t1, t2, t3, tb⟩
        case round =>
          clear t0 t1 t2 t3 tb
          obtain ⟨j, hj, rfl, q0, q1, q2, q3, qb⟩ := hrel
          by_cases hj8 : j < 8
          · have hc := row_cell q3 (56 + j) (by rw [hFl]; omega)
            have hf := row_frozen q3 (56 + j)
            have z3 : Row (wr.setCell ⟨g, 56 + j, none⟩ (.int .u8 (v / 2 ^ (8 * j) % 256))) g (bs (F (j + 1))) 81 := by
              have := row_setCell q3 (56 + j) (byteOf v j)
              rw [HFs.out j] at this; exact this
            have z0 := row_setCell_other q0 (show w.heap.size ≠ g by omega) (56 + j) (.int .u8 (v / 2 ^ (8 * j) % 256))
            have z1 := row_setCell_other q1 (show w.heap.size + 1 ≠ g by omega) (56 + j) (.int .u8 (v / 2 ^ (8 * j) % 256))
            have z2 := row_setCell_other q2 (show w.heap.size + 1 + 1 ≠ g by omega) (56 + j) (.int .u8 (v / 2 ^ (8 * j) % 256))
            have zb := qb.setCell (p := ⟨g, 56 + j, none⟩) (show w.heap.size ≤ g by omega) (.int .u8 (v / 2 ^ (8 * j) % 256))
            go_wp2
            go_roundw
            case rel => exact ⟨j + 1, by omega, by go_num, z0, z1, z2, z3, zb⟩
            case measure => simp [intOf]; omega
          · have e8 : j = 8 := by omega
            subst e8
            go_wp2_with (first
              | (refine load_row rfl 29 (.tmp 5) rfl (w.heap.size + 1 + 1) rfl 29 (bs B) q2 256 5 Try.underlying29 size29 (by rw [bs_size, hBl]) ?_)
              | (refine load_row rfl 81 (.tmp 7) rfl g rfl 81 (bs (F 8)) q3 64 5 Try.underlying81 size81 (by rw [bs_size, hFl]) ?_)
              | (go_at_call 40; refine (lay_at B (F 8) hBl (hFl 8) _ k hlt (by omega) N HL.out _).mono ?_; rintro e wc ⟨rfl, hcb⟩)
              | (refine store_row rfl 29 (.tmp 5) (.tmp 32) rfl (w.heap.size + 1 + 1) N rfl rfl 29 _ (q2.below hcb q2.lt) 256 size29 (by rw [bs_size, hBl]) hNl ?_))
            have l3 := q2.lt
            go_roundw
            case rel =>
              refine ⟨k + 1, by omega, by go_num, (q0.below hcb (by omega)).other (by omega) _, (q1.below hcb (by omega)).other (by omega) _, ?_, below_setRow (qb.trans (hcb.mono (by omega))) (by omega) _⟩
              rw [HN.out]; exact (q2.below hcb (by omega)).set _
            case measure => simp [intOf]; omega
    · have e4 : k = 4 := by omega
      subst e4
      have hl := sealN_length v p 4 (by omega)
      go_wp2_with (first
        | (refine load_row rfl 29 (.tmp 5) rfl (w.heap.size + 1 + 1) rfl 29 (bs (sealN v p 4)) r2 256 5 Try.underlying29 size29 (by rw [bs_size, hl]) ?_)
        | (refine store_row rfl 29 (.tmp 4) (.tmp 34) rfl (w.heap.size + 1) (sealN v p 4) rfl rfl 29 _ r1 256 size29 (by rw [bs_size, zs_length]) hl ?_))
      refine bodyPost_ret (v := .agg (bs (sealN v p 4))) ?_ rfl ⟨rfl, below_setRow hb (by omega) _⟩
      exact ret_row (fn := Try.f24) rfl _ _ (w.heap.size + 1) 29 (bs (sealN v p 4)) 256 5 rfl (r1.set _) Try.underlying29 size29 (by rw [bs_size, hl])
end Go.Proofs.Ytcbjjofckhohjaa.Sl
