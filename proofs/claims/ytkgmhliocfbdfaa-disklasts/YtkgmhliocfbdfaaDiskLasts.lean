/-
  Proved: for every two lists of bytes and every list of Booleans the Go function varvelaw05.DiskLasts returns true and leaves its arguments as they were; no condition.
-/
import Derived.Test.YtkgmhliocfbdfaaLast
namespace Go.Proofs.Ytkgmhliocfbdfaa.diskLasts
open Go.ChangeShapes Go.WideShapes Go.ChangeAt Go.RowKit
open Go.Deep
set_option linter.unusedVariables false
set_option linter.unusedSimpArgs false

theorem own : ownKnob Try.prog.godebug = none := by kernel_rfl

set_option maxHeartbeats 4000000 in
set_option maxRecDepth 20000 in
theorem walk (w : World) (v0 : Value) (l0 : List Nat) (v1 : Value) (l1 : List Nat) (v2 : Value) (bl : List Bool) (h0 : Bys w v0 l0) (h1 : Bys w v1 l1) (h2 : Cel w v2 (bl.map .bool) ∧ bl.length ≤ 140737488355328) :
    Calls Try.prog 4 #[v0, v1, v2] w fun e w' => e = .returned (.bool true) ∧ Below w.heap.size w w' := by
  obtain ⟨oa, cap, rfl, hlen, hcs⟩ := h0.open
  have HCS : Hid _ := hcs
  obtain ⟨oa1, cap1, rfl, hlen1, hcs1⟩ := h1.open
  have HCS1 : Hid _ := hcs1
  have H2 : Hid _ := h2
  clear hcs h0 hcs1 h1 h2
  obtain ⟨n, HN⟩ : ∃ n, Hid (l0.length = n) := ⟨_, rfl⟩
  obtain ⟨m, HM⟩ : ∃ m, Hid (l1.length = m) := ⟨_, rfl⟩
  rw [HN.out] at HCS hlen ⊢
  rw [HM.out] at HCS1 hlen1 ⊢
  have hnew := new_some 300 (by omega) (by omega) w
  have HNF : Hid (∀ j, foot (w.heap.size + 2) (Loc.new w.heap.size) j → w.heap.size ≤ j) := fun j hj => new_foot _ j hj
  generalize Loc.new w.heap.size = L0 at hnew HNF
  generalize w.heap.size + 2 = G at hnew HNF
  go_enter Try.func4, Try.ntmps4
  go_upto_block 0 with (go_at_call 9; refine hnew.mono ?_; rintro e w1 ⟨rfl, D1, B1⟩)
  have S1 : Dw w w1 G (Dsk.new 300) L0 0 := ⟨D1, B1, HNF.out⟩
  clear D1 B1 HNF hnew
  go_cut [] from 17 to 37 (fun wr => ∃ (d : Dsk) (L : Loc), Hid (Well d 300 100) ∧ Dw w wr G d L 400)
  case first =>
    go_wp2_with fail
    go_loopw [8] (fun c wr => ∃ (k : Nat) (d : Dsk) (L : Loc), c = .int .i64 k ∧ k ≤ 100 ∧ Hid (Well d 300 k) ∧ Dw w wr G d L (4 * k)) (fun c _ => 100 - (intOf c).toNat)
    case atStart => exact ⟨0, _, _, rfl, by omega, ⟨rfl, rfl, rfl, fun _ => rfl, by simp [Dsk.new], by simp [Dsk.new]⟩, S1⟩
    case round =>
      clear S1
      obtain ⟨k, d, L, rfl, hk, HW, S⟩ := hrel
      by_cases hkl : k < n
      · have hkl' : (k : Int) < (n : Int) := by omega
        by_cases hk30 : k < 100
        · have hk30' : (k : Int) < 100 := by omega
          obtain ⟨a, y, rfl, hy, hcell⟩ := HCS.out k hkl
          have hy' : (y : Int) < 256 := by omega
          have wy : IntKind.i64.wrap (y : Int) = y := by rw [IntKind.wrap_i64]; omega
          obtain ⟨z, HZ⟩ : ∃ z : Int, Hid ((k : Int) = z) := ⟨_, rfl⟩
          have wk : IntKind.u8.wrap (k : Int) = z := by rw [IntKind.wrap_u8, ← HZ.out]; omega
          have hz : 0 ≤ z ∧ z ≤ 255 := by rw [← HZ.out]; omega
          have hfl := filled_at z hz
          have hxl := filled_length z
          have hxb := filled_bytes z
          obtain ⟨x, HX⟩ : ∃ x, Hid (filled z = x) := ⟨_, rfl⟩
          have hfl := hfl x HX.out
          rw [HX.out] at hxl hxb
          have hwr := writ_well HW.out y (by omega) x
          go_upto_region 7 with fail
          have D2 := S.down (Below.refl _ _).drew
          refine wp_region_held_drew (S := fun w' => Below w.heap.size w w') (by kernel_rfl) D2.below fun hS => ?_
          refine wpAnyH_take (i := 0) (v := .pointer (some ⟨G, 0, none⟩)) rfl (by kernel_rfl) (by kernel_rfl) (by kernel_rfl) (fun _ _ _ h => h) (Or.inl ⟨by rfl, fun w _ => by rfl⟩) hS ?_
          try simp only [Act.put, List.getElem_toArray, List.getElem_cons_zero, List.getElem_cons_succ, List.setIfInBounds_toArray, List.set_cons_zero, List.set_cons_succ]
          refine wpAnyH_take (i := 1) (v := .slice (some a) n cap) rfl (by kernel_rfl) (by kernel_rfl) (by kernel_rfl) (fun _ _ _ h => h) (Or.inl ⟨by rfl, fun w _ => by rfl⟩) hS ?_
          try simp only [Act.put, List.getElem_toArray, List.getElem_cons_zero, List.getElem_cons_succ, List.setIfInBounds_toArray, List.set_cons_zero, List.set_cons_succ]
          refine wpAnyH_take (i := 2) (v := .int .i64 k) rfl (by kernel_rfl) (by kernel_rfl) (by kernel_rfl) (fun _ _ _ h => h) (Or.inl ⟨by rfl, fun w _ => by rfl⟩) hS ?_
          try simp only [Act.put, List.getElem_toArray, List.getElem_cons_zero, List.getElem_cons_succ, List.setIfInBounds_toArray, List.set_cons_zero, List.set_cons_succ]
          refine wpAnyH_take (i := 3) (v := .pointer (some (a.add k))) rfl (by kernel_rfl) (by kernel_rfl) (by kernel_rfl) (fun _ _ _ h => h) (Or.inl ⟨by rfl, fun w _ => by go_simp⟩) hS ?_
          try simp only [Act.put, List.getElem_toArray, List.getElem_cons_zero, List.getElem_cons_succ, List.setIfInBounds_toArray, List.set_cons_zero, List.set_cons_succ]
          refine wpAnyH_take (i := 4) (v := .int .u8 y) rfl (by kernel_rfl) (by kernel_rfl) (by kernel_rfl) (fun _ _ _ h => h) (Or.inl ⟨by rfl, fun w h => by have c := cell_keep hcell h; go_simp⟩) hS ?_
          try simp only [Act.put, List.getElem_toArray, List.getElem_cons_zero, List.getElem_cons_succ, List.setIfInBounds_toArray, List.set_cons_zero, List.set_cons_succ]
          refine wpAnyH_take (i := 5) (v := .int .i64 y) rfl (by kernel_rfl) (by kernel_rfl) (by kernel_rfl) (fun _ _ _ h => h) (Or.inl ⟨by rfl, fun w _ => by go_simp⟩) hS ?_
          try simp only [Act.put, List.getElem_toArray, List.getElem_cons_zero, List.getElem_cons_succ, List.setIfInBounds_toArray, List.set_cons_zero, List.set_cons_succ]
          refine wpAnyH_take (i := 6) (v := .int .i64 k) rfl (by kernel_rfl) (by kernel_rfl) (by kernel_rfl) (fun _ _ _ h => h) (Or.inl ⟨by rfl, fun w _ => by rfl⟩) hS ?_
          try simp only [Act.put, List.getElem_toArray, List.getElem_cons_zero, List.getElem_cons_succ, List.setIfInBounds_toArray, List.set_cons_zero, List.set_cons_succ]
          refine wpAnyH_take (i := 7) (v := .int .u8 z) rfl (by kernel_rfl) (by kernel_rfl) (by kernel_rfl) (fun _ _ _ h => h) (Or.inl ⟨by rfl, fun w _ => by go_simp⟩) hS ?_
          try simp only [Act.put, List.getElem_toArray, List.getElem_cons_zero, List.getElem_cons_succ, List.setIfInBounds_toArray, List.set_cons_zero, List.set_cons_succ]
          refine wpAnyH_ready (rs := [8]) (by kernel_rfl) (by simp) ?_
          refine AllReadyH.cons rfl (fun K hK => ?_) AllReadyH.nil
          go_simp
          go_at_call 14
          refine (hfl _).mono ?_
          rintro e wc ⟨rfl, hcb⟩
          refine hK.out _ _ (hS.trans (hcb.mono hS.size)) fun hS => ?_
          try simp only [Act.put, List.getElem_toArray, List.getElem_cons_zero, List.getElem_cons_succ, List.setIfInBounds_toArray, List.set_cons_zero, List.set_cons_succ]
          have D3 := D2.down hcb
          refine wpAnyH_ready (rs := [9]) (by kernel_rfl) (by simp) ?_
          refine AllReadyH.cons rfl (fun K hK => ?_) AllReadyH.nil
          go_simp
          go_at_call 26
          refine ((write_any D3.at_ (by have := HW.out.hi; omega) y x hxl hxb (by omega))).mono ?_
          rw [hwr]; rintro e w5 ⟨rfl, L5, D5, O5, F5⟩
          refine hK.out _ _ (D3.below.trans (O5.below D3.below.size D3.foot)) fun hS => ?_
          try simp only [Act.put, List.getElem_toArray, List.getElem_cons_zero, List.getElem_cons_succ, List.setIfInBounds_toArray, List.set_cons_zero, List.set_cons_succ]
          refine wpAnyH_take (i := 10) (v := .bool false) rfl (by kernel_rfl) (by kernel_rfl) (by kernel_rfl) (fun _ _ _ h => h) (Or.inl ⟨by rfl, fun w _ => by go_simp⟩) hS ?_
          try simp only [Act.put, List.getElem_toArray, List.getElem_cons_zero, List.getElem_cons_succ, List.setIfInBounds_toArray, List.set_cons_zero, List.set_cons_succ]
          refine wpAnyH_done (by kernel_rfl) ?_ _
          have D6 : Dw w w5 G _ L5 (4 * k + 4) := ⟨D5, hS, fun j hj => by
            rcases F5 j hj with q | q
            · exact D3.foot j q
            · exact Nat.le_trans D3.below.size q⟩
          go_wp2
          go_roundw
          case rel => exact ⟨k + 1, _, L5, by go_num, by omega, HW.out.tick.wrote _ _, D6.grow (by omega) (by omega)⟩
          case measure => simp [intOf]; omega
        · have hk30' : ¬ (k : Int) < 100 := by omega
          go_wp2
          go_meet
          obtain rfl : k = 100 := by omega
          exact ⟨d, L, HW, S⟩
      · have hkl' : ¬ (k : Int) < (n : Int) := by omega
        go_wp2
        go_meet
        exact ⟨d, L, HW.out.mono (by omega), S.grow (by omega) (by omega)⟩
  case rest =>
    obtain ⟨d0, L, HW0, S⟩ := hcut
    clear S1 HCS
    have hsy := sync_any S.at_ (by have := HW0.out.hi; omega)
    rw [sync_well HW0.out] at hsy
    simp only at hsy
    have HW := show Hid (Well (d0.tick (d0.ops + 1)).synced 300 (100 + 1)) from HW0.out.tick.synced
    have HP0 : Hid ((d0.tick (d0.ops + 1)).synced.pend = []) := rfl
    generalize (d0.tick (d0.ops + 1)).synced = d at hsy HW HP0
    have hz52 := zero52
    have hz35 := zero35
    go_upto_block 2 with (first
      | (go_at_call 27; refine hsy.mono ?_; rintro e w2 ⟨rfl, CR⟩))
    obtain ⟨L2, S2, _⟩ := S.step CR
    clear S CR hsy HW0
    have x1 : Row (w2.alloc (.cells (bs (zs 65536)) 52)) w2.heap.size (bs (zs 65536)) 52 := Row.new _ _ _
    have G1 : Grid _ w2.heap.size 256 0 (fun j => d.seen j) := Grid.start x1 (by rw [bs_size, zs_length]) _
    have HPo : Hid (¬ foot G L2 w2.heap.size) := fun q => by have := S2.at_.lt q; omega
    have HPb : Hid (w.heap.size ≤ w2.heap.size) := S2.below.size
    have hn3 : d.n = 300 := HW.out.size
    have HL1 : Hid (∀ j : Nat, j < 256 → (d.seen j).length = 256) := fun j hj => (Dsk.seen_length S2.at_ j ⟨by omega, by rw [hn3]; omega⟩).1
    have S3 := S2.down ((Below.refl w2.heap.size w2).alloc (Nat.le_refl _) (.cells (bs (zs 65536)) 52))
    clear S2 x1
    generalize w2.alloc (.cells (bs (zs 65536)) 52) = wd at S3 G1 ⊢
    generalize w2.heap.size = P at G1 HPo HPb ⊢
    go_cut [] from 41 to 49 (fun wr => Dw w wr G d L2 400 ∧ Grid wr P 256 256 (fun j => d.seen j))
    case first =>
      go_wp2_with fail
      go_loopw [10] (fun c wr => ∃ (k : Nat), c = .int .i64 k ∧ k ≤ 256 ∧ Dw w wr G d L2 400 ∧ Grid wr P 256 k (fun j => d.seen j)) (fun c _ => 256 - (intOf c).toNat)
      case atStart => exact ⟨0, rfl, by omega, S3, G1⟩
      case round =>
        clear S3 G1
        obtain ⟨k, rfl, hk, S, G1⟩ := hrel
        by_cases hk8 : k < 256
        · have hk8' : (k : Int) < 256 := by omega
          have hb : 0 ≤ (k : Int) ∧ (k : Int) < d.n := ⟨by omega, by rw [hn3]; omega⟩
          have hse := seen_in S.at_ k hb
          have hl1 := HL1.out k hk8
          have t1 : Hid (1 = 1) := rfl
          go_wp2_with (first
            | (go_at_call 22; refine hse.mono ?_; rintro e w2 ⟨rfl, b2⟩
               have G3 := G1.below b2
               have S3 := S.down b2)
            | (have hh := t1; clear hh t1; refine store_grid rfl 35 (.tmp 49) (.tmp 48) rfl P k (d.seen k) _ rfl (add_at _ _) rfl (G3.there k hk8) size35 hl1 ?_
               have S5 := S3.cells P (256 * k) ((d.seen k).map (Value.int .u8)) HPo.out HPb.out
               have G5 := G3.put hk8 HL1.out
               clear S3 G3
               generalize World.setCells w2 P (256 * k) ((d.seen k).map (Value.int .u8)) = w3 at S5 G5 ⊢))
          go_roundw
          case rel => exact ⟨k + 1, by go_num, by omega, S5, G5⟩
          case measure => simp [intOf]; omega
        · have hk8' : ¬ (k : Int) < 256 := by omega
          obtain rfl : k = 256 := by omega
          go_wp2
          go_meet
          exact ⟨S, G1⟩
    case rest =>
      obtain ⟨S4, G4⟩ := hcut
      clear S3 G1
      have hmk : ∀ w : World, (Instr.makeSlice 31 (.int .i64 256) (.int .i64 256)).run Try.prog w = .ok (.slice (some ⟨w.heap.size, 0, none⟩) 256 256) (w.alloc (.cells (madeCells #[.bool false] 256) 4)) := run_make_row' (P := Try.prog) 31 4 (.bool false) 1 Try.underlying31 info4 rfl .i64 .i64 256 (by omega) (by omega)
      have ab := (Below.refl wc.heap.size wc).alloc (Nat.le_refl _) (.cells (madeCells #[.bool false] 256) 4)
      have S5 := S4.down ab
      have G5 := G4.below ab
      have HKo : Hid (¬ foot G L2 wc.heap.size) := fun q => by have := S4.at_.lt q; omega
      have HKb : Hid (w.heap.size ≤ wc.heap.size) := S4.below.size
      have HNP : Hid (P ≠ wc.heap.size) := fun q => by have := G4.lt; omega
      have A0 : Flags (wc.alloc (.cells (madeCells #[.bool false] 256) 4)) wc.heap.size 256 (fun _ => false) := ⟨_, Row.new _ _ _, by simp [madeCells], fun j hj => by simp [madeCells, hj, Nat.mod_one]⟩
      clear S4 G4 ab
      go_upto_block 4 with fail
      generalize wc.alloc (.cells (madeCells #[.bool false] 256) 4) = we at S5 G5 A0 ⊢
      generalize wc.heap.size = Kf at A0 HKo HKb HNP ⊢
      clear hmk
      go_cut [] from 51 to 78 (fun wr => ∃ (d2 : Dsk) (L : Loc) (ov : Nat → Bool), Hid (Well d2 300 201 ∧ d2.sure = d.sure ∧ Marked d2 ov ∧ ¬ foot G L Kf ∧ ¬ foot G L P) ∧ Dw w wr G d2 L 800 ∧ Grid wr P 256 256 (fun j => d.seen j) ∧ Flags wr Kf 256 ov)
      case first =>
        go_wp2_with fail
        go_loopw [12] (fun c wr => ∃ (k : Nat) (d2 : Dsk) (L : Loc) (ov : Nat → Bool), c = .int .i64 k ∧ k ≤ 100 ∧ Hid (Well d2 300 (101 + k)) ∧ Hid (d2.sure = d.sure ∧ Marked d2 ov ∧ ¬ foot G L Kf ∧ ¬ foot G L P) ∧ Dw w wr G d2 L (400 + 4 * k) ∧ Grid wr P 256 256 (fun j => d.seen j) ∧ Flags wr Kf 256 ov) (fun c _ => 100 - (intOf c).toNat)
        case atStart => exact ⟨0, d, L2, _, rfl, by omega, HW, ⟨rfl, (fun q hq => by rw [HP0.out] at hq; cases hq), HKo.out, HPo.out⟩, S5, G5, A0⟩
        case round =>
          clear S5 G5 A0
          obtain ⟨k, d2, L, ov, rfl, hk, HW, HR, S, G1, F1⟩ := hrel
          by_cases hkl : k < m
          · have hkl' : (k : Int) < (m : Int) := by omega
            by_cases hk30 : k < 100
            · have hk30' : (k : Int) < 100 := by omega
              obtain ⟨a, y, rfl, hy, hcell⟩ := HCS1.out k hkl
              have hy' : (y : Int) < 256 := by omega
              have wy : IntKind.i64.wrap (y : Int) = y := by rw [IntKind.wrap_i64]; omega
              obtain ⟨z, HZ⟩ : ∃ z : Int, Hid ((200 + k : Int) % 256 = z) := ⟨_, rfl⟩
              have wk0 : IntKind.i64.wrap (200 + (k : Int)) = 200 + k := by rw [IntKind.wrap_i64]; omega
              have wk : IntKind.u8.wrap (200 + (k : Int)) = z := by rw [IntKind.wrap_u8, ← HZ.out]
              have hz : 0 ≤ z ∧ z ≤ 255 := by rw [← HZ.out]; omega
              have hfl := filled_at z hz
              have hxl := filled_length z
              have hxb := filled_bytes z
              obtain ⟨x, HX⟩ : ∃ x, Hid (filled z = x) := ⟨_, rfl⟩
              have hfl := hfl x HX.out
              rw [HX.out] at hxl hxb
              have hwr := writ_well HW.out y (by omega) x
              have hcw := cell_keep hcell S.below
              have hf0 := F1.at_ y hy
              have hf1 := F1.fr y
              have O1 : Off (· = Kf) wr (wr.setCell ⟨Kf, y, none⟩ (.bool true)) := Off.of_setCell _ _ _ rfl
              have D1 := S.cell Kf y (.bool true) HR.out.2.2.1 HKb.out
              have G0 := G1.off O1 HNP.out
              have F0 := F1.put y
              go_upto_region 21 with fail
              generalize wr.setCell ⟨Kf, y, none⟩ (.bool true) = wf at D1 G0 F0 O1 ⊢
              have D2 := D1.down (Below.refl _ _).drew
              have F2 := F0.below (Below.refl _ _).drew
              have G2 := G0.drew
              clear hcw hf0 hf1 D1 G0 F0 S G1 F1 O1
              refine wp_region_held_drew (S := fun w' => Below w.heap.size w w') (by kernel_rfl) D2.below fun hS => ?_
              refine wpAnyH_take (i := 0) (v := .pointer (some ⟨G, 0, none⟩)) rfl (by kernel_rfl) (by kernel_rfl) (by kernel_rfl) (fun _ _ _ h => h) (Or.inl ⟨by rfl, fun w _ => by rfl⟩) hS ?_
              try simp only [Act.put, List.getElem_toArray, List.getElem_cons_zero, List.getElem_cons_succ, List.setIfInBounds_toArray, List.set_cons_zero, List.set_cons_succ]
              refine wpAnyH_take (i := 1) (v := .slice (some a) m cap1) rfl (by kernel_rfl) (by kernel_rfl) (by kernel_rfl) (fun _ _ _ h => h) (Or.inl ⟨by rfl, fun w _ => by rfl⟩) hS ?_
              try simp only [Act.put, List.getElem_toArray, List.getElem_cons_zero, List.getElem_cons_succ, List.setIfInBounds_toArray, List.set_cons_zero, List.set_cons_succ]
              refine wpAnyH_take (i := 2) (v := .int .i64 k) rfl (by kernel_rfl) (by kernel_rfl) (by kernel_rfl) (fun _ _ _ h => h) (Or.inl ⟨by rfl, fun w _ => by rfl⟩) hS ?_
              try simp only [Act.put, List.getElem_toArray, List.getElem_cons_zero, List.getElem_cons_succ, List.setIfInBounds_toArray, List.set_cons_zero, List.set_cons_succ]
              refine wpAnyH_take (i := 3) (v := .pointer (some (a.add k))) rfl (by kernel_rfl) (by kernel_rfl) (by kernel_rfl) (fun _ _ _ h => h) (Or.inl ⟨by rfl, fun w _ => by go_simp⟩) hS ?_
              try simp only [Act.put, List.getElem_toArray, List.getElem_cons_zero, List.getElem_cons_succ, List.setIfInBounds_toArray, List.set_cons_zero, List.set_cons_succ]
              refine wpAnyH_take (i := 4) (v := .int .u8 y) rfl (by kernel_rfl) (by kernel_rfl) (by kernel_rfl) (fun _ _ _ h => h) (Or.inl ⟨by rfl, fun w h => by have c := cell_keep hcell h; go_simp⟩) hS ?_
              try simp only [Act.put, List.getElem_toArray, List.getElem_cons_zero, List.getElem_cons_succ, List.setIfInBounds_toArray, List.set_cons_zero, List.set_cons_succ]
              refine wpAnyH_take (i := 5) (v := .int .i64 y) rfl (by kernel_rfl) (by kernel_rfl) (by kernel_rfl) (fun _ _ _ h => h) (Or.inl ⟨by rfl, fun w _ => by go_simp⟩) hS ?_
              try simp only [Act.put, List.getElem_toArray, List.getElem_cons_zero, List.getElem_cons_succ, List.setIfInBounds_toArray, List.set_cons_zero, List.set_cons_succ]
              refine wpAnyH_take (i := 6) (v := .int .i64 k) rfl (by kernel_rfl) (by kernel_rfl) (by kernel_rfl) (fun _ _ _ h => h) (Or.inl ⟨by rfl, fun w _ => by rfl⟩) hS ?_
              try simp only [Act.put, List.getElem_toArray, List.getElem_cons_zero, List.getElem_cons_succ, List.setIfInBounds_toArray, List.set_cons_zero, List.set_cons_succ]
              refine wpAnyH_take (i := 7) (v := .int .i64 (200 + k)) rfl (by kernel_rfl) (by kernel_rfl) (by kernel_rfl) (fun _ _ _ h => h) (Or.inl ⟨by rfl, fun w _ => by go_simp⟩) hS ?_
              try simp only [Act.put, List.getElem_toArray, List.getElem_cons_zero, List.getElem_cons_succ, List.setIfInBounds_toArray, List.set_cons_zero, List.set_cons_succ]
              refine wpAnyH_take (i := 8) (v := .int .u8 z) rfl (by kernel_rfl) (by kernel_rfl) (by kernel_rfl) (fun _ _ _ h => h) (Or.inl ⟨by rfl, fun w _ => by go_simp⟩) hS ?_
              try simp only [Act.put, List.getElem_toArray, List.getElem_cons_zero, List.getElem_cons_succ, List.setIfInBounds_toArray, List.set_cons_zero, List.set_cons_succ]
              refine wpAnyH_ready (rs := [9]) (by kernel_rfl) (by simp) ?_
              refine AllReadyH.cons rfl (fun K hK => ?_) AllReadyH.nil
              go_simp
              go_at_call 14
              refine (hfl _).mono ?_
              rintro e wc ⟨rfl, hcb⟩
              refine hK.out _ _ (hS.trans (hcb.mono hS.size)) fun hS => ?_
              try simp only [Act.put, List.getElem_toArray, List.getElem_cons_zero, List.getElem_cons_succ, List.setIfInBounds_toArray, List.set_cons_zero, List.set_cons_succ]
              have D3 := D2.down hcb
              have F3 := F2.below hcb
              have G3 := G2.below hcb
              refine wpAnyH_ready (rs := [10]) (by kernel_rfl) (by simp) ?_
              refine AllReadyH.cons rfl (fun K hK => ?_) AllReadyH.nil
              go_simp
              go_at_call 26
              refine ((write_any D3.at_ (by have := HW.out.hi; omega) y x hxl hxb (by omega))).mono ?_
              rw [hwr]; rintro e w5 ⟨rfl, L5, D5, O5, F5⟩
              refine hK.out _ _ (D3.below.trans (O5.below D3.below.size D3.foot)) fun hS => ?_
              try simp only [Act.put, List.getElem_toArray, List.getElem_cons_zero, List.getElem_cons_succ, List.setIfInBounds_toArray, List.set_cons_zero, List.set_cons_succ]
              refine wpAnyH_take (i := 11) (v := .bool false) rfl (by kernel_rfl) (by kernel_rfl) (by kernel_rfl) (fun _ _ _ h => h) (Or.inl ⟨by rfl, fun w _ => by go_simp⟩) hS ?_
              try simp only [Act.put, List.getElem_toArray, List.getElem_cons_zero, List.getElem_cons_succ, List.setIfInBounds_toArray, List.set_cons_zero, List.set_cons_succ]
              refine wpAnyH_done (by kernel_rfl) ?_ _
              have D6 : Dw w w5 G _ L5 (400 + 4 * k + 4) := ⟨D5, hS, fun j hj => by
                rcases F5 j hj with q | q
                · exact D3.foot j q
                · exact Nat.le_trans D3.below.size q⟩
              have K6 : ¬ foot G L5 Kf := fun q => by
                rcases F5 Kf q with q | q
                · exact HR.out.2.2.1 q
                · have := F3.lt; omega
              have P6 : ¬ foot G L5 P := fun q => by
                rcases F5 P q with q | q
                · exact HR.out.2.2.2 q
                · have := G3.lt; omega
              have F6 := F3.off O5 HR.out.2.2.1
              have G6 := G3.off O5 HR.out.2.2.2
              go_wp2
              go_roundw
              case rel => exact ⟨k + 1, _, L5, _, by go_num, by omega, (HW.out.tick.wrote _ _).mono (by omega), ⟨(wrote_sure _ _ _ 4).trans HR.out.1, Marked.more (d := d2.tick (d2.ops + 1)) HR.out.2.1 y x, K6, P6⟩, D6.grow (by omega) (by omega), G6, F6⟩
              case measure => simp [intOf]; omega
            · have hk30' : ¬ (k : Int) < 100 := by omega
              go_wp2
              go_meet
              obtain rfl : k = 100 := by omega
              exact ⟨d2, L, ov, ⟨HW.out, HR.out⟩, S, G1, F1⟩
          · have hkl' : ¬ (k : Int) < (m : Int) := by omega
            go_wp2
            go_meet
            exact ⟨d2, L, ov, ⟨HW.out.mono (by omega), HR.out⟩, S.grow (by omega) (by omega), G1, F1⟩
      case rest =>
        obtain ⟨d2, L3, ov, HR, S6, G6, F6⟩ := hcut
        clear S5 G5 A0 HCS1 HKo HPo HKb
        have hcp := copied_any v2 bl wc (H2.out.1.keep S6.below) H2.out.2
        have hcr : ∀ wx k', Below wc.heap.size wc wx → Cel wx k' (bl.map .bool) → High wc.heap.size k' → Calls Try.prog 28 #[.pointer (some ⟨G, 0, none⟩), k'] wx fun e w' => e = .returned (.tuple #[]) ∧ Crashed wx G (d2.crash bl) L3 800 w' := fun wx k' hb hc hh => crash_any (S6.at_.below hb) k' bl hc (fun a n c e q => by have := hh a n c e; have := S6.at_.lt q; omega)
        go_upto_block 6 with (first
          | (go_at_call 29; refine hcp.mono ?_; rintro e w2 ⟨v', rfl, hc2, hh2, b2⟩)
          | (go_at_call 28; refine (hcr _ _ b2 hc2 hh2).mono ?_; rintro e w3 ⟨rfl, CR⟩))
        have S7 := S6.down b2
        have G7 := G6.below b2
        have F7 := F6.below b2
        obtain ⟨L4, S8, K8⟩ := S7.step CR
        obtain ⟨G8, f8⟩ := K8 _ _ _ _ G7 HR.out.2.2.2.2
        have F8 : Flags w3 Kf 256 ov := by
          obtain ⟨_, _, O, _⟩ := CR
          exact F7.off O HR.out.2.2.2.1
        have hd1 : Hid (∀ b : Nat, b < 256 → ov b = false → (d2.crash bl).seen b = d.seen b) := fun b hb ho => by
          rw [crash_out d2 bl b (fun q hq e => by have := (HR.out.2.2.1 q hq).2; rw [e] at this; simp [ho] at this), HR.out.2.1, seen_none d HP0.out]
        have hd2 : Hid (∀ b : Nat, (d2.crash bl).sure.block b = (d2.crash bl).seen b) := fun b => (seen_none _ rfl _).symm
        have hd3 : (d2.crash bl).n = 300 := HR.out.1.size
        have hd4 : (d2.crash bl).pend.length = 0 := rfl
        generalize d2.crash bl = e at S8 hd1 hd2 hd3 hd4
        clear K8 CR S6 S7 G6 G7 F6 F7 hcr hcp hc2 hh2 b2 f8
        have hlx : Hid (∀ j : Nat, j < 256 → (e.seen j).length = 256) := fun j hj => (Dsk.seen_length S8.at_ j ⟨by omega, by rw [hd3]; omega⟩).1
        go_cut [] from 83 to 109 (fun wr => Dw w wr G e L4 800)
        case first =>
          go_wp2_with fail
          go_loopw [13] (fun c wr => ∃ (k : Nat), c = .int .i64 k ∧ k ≤ 256 ∧ Dw w wr G e L4 800 ∧ Grid wr P 256 256 (fun j => d.seen j) ∧ Flags wr Kf 256 ov) (fun c _ => 256 - (intOf c).toNat)
          case atStart => exact ⟨0, rfl, by omega, S8, G8, F8⟩
          case round =>
            clear S8 G8 F8
            obtain ⟨k, rfl, hk, S, G1, F1⟩ := hrel
            by_cases hk8 : k < 256
            · have hk8' : (k : Int) < 256 := by omega
              have hb : 0 ≤ (k : Int) ∧ (k : Int) < e.n := ⟨by omega, by rw [hd3]; omega⟩
              have hl1 := HL1.out k hk8
              have hl2 := hlx.out k hk8
              have hX2 := hd2.out k
              obtain ⟨X, hX1⟩ : ∃ X, e.seen k = X := ⟨_, rfl⟩
              rw [hX1] at hX2 hl2
              have he1 : Hid (∀ w, (Op.equalIn 10000 35 (.agg (bs (d.seen k))) (.agg (bs (d.seen k)))).run Try.prog w = .ok true w) := fun w => by rw [equal35 _ _ hl1 hl1 w]; simp
              have he2 : Hid (∀ w, (Op.equalIn 10000 35 (.agg (bs X)) (.agg (bs X))).run Try.prog w = .ok true w) := fun w => by rw [equal35 _ _ hl2 hl2 w]; simp
              cases hov : ov k
              · skip
                have hse := (hd1.out k hk8 hov)
                go_upto_region 27 with fail
                refine wp_region_held_drew (S := fun w' => Dw w w' G e L4 800 ∧ Grid w' P 256 256 (fun j => d.seen j) ∧ Flags w' Kf 256 ov) (by kernel_rfl) ⟨S.down (Below.refl _ _).drew, G1.drew, F1.below (Below.refl _ _).drew⟩ fun hS => ?_
                clear S G1 F1
                refine wpAnyH_take (i := 0) (v := .slice (some ⟨Kf, 0, none⟩) 256 256) rfl (by kernel_rfl) (by kernel_rfl) (by kernel_rfl) (fun _ _ _ h => h) (Or.inl ⟨by rfl, fun w _ => by rfl⟩) hS ?_
                try simp only [Act.put, List.getElem_toArray, List.getElem_cons_zero, List.getElem_cons_succ, List.setIfInBounds_toArray, List.set_cons_zero, List.set_cons_succ]
                refine wpAnyH_take (i := 1) (v := .int .i64 k) rfl (by kernel_rfl) (by kernel_rfl) (by kernel_rfl) (fun _ _ _ h => h) (Or.inl ⟨by rfl, fun w _ => by rfl⟩) hS ?_
                try simp only [Act.put, List.getElem_toArray, List.getElem_cons_zero, List.getElem_cons_succ, List.setIfInBounds_toArray, List.set_cons_zero, List.set_cons_succ]
                refine wpAnyH_take (i := 2) (v := .pointer (some ⟨Kf, k, none⟩)) rfl (by kernel_rfl) (by kernel_rfl) (by kernel_rfl) (fun _ _ _ h => h) (Or.inl ⟨by rfl, fun w _ => by go_simp⟩) hS ?_
                try simp only [Act.put, List.getElem_toArray, List.getElem_cons_zero, List.getElem_cons_succ, List.setIfInBounds_toArray, List.set_cons_zero, List.set_cons_succ]
                refine wpAnyH_take (i := 3) (v := .bool false) rfl (by kernel_rfl) (by kernel_rfl) (by kernel_rfl) (fun _ _ _ h => h) (Or.inl ⟨by rfl, fun w h => by have c := h.2.2.at_ k hk8; rw [hov] at c; go_simp⟩) hS ?_
                try simp only [Act.put, List.getElem_toArray, List.getElem_cons_zero, List.getElem_cons_succ, List.setIfInBounds_toArray, List.set_cons_zero, List.set_cons_succ]
                refine wpAnyH_take (i := 4) (v := .bool true) rfl (by kernel_rfl) (by kernel_rfl) (by kernel_rfl) (fun _ _ _ h => h) (Or.inl ⟨by rfl, fun w _ => by go_simp⟩) hS ?_
                try simp only [Act.put, List.getElem_toArray, List.getElem_cons_zero, List.getElem_cons_succ, List.setIfInBounds_toArray, List.set_cons_zero, List.set_cons_succ]
                refine wpAnyH_take (i := 5) (v := .bool true) rfl (by kernel_rfl) (by kernel_rfl) (by kernel_rfl) (fun _ _ _ h => h) (Or.inl ⟨by rfl, fun w _ => by rfl⟩) hS ?_
                try simp only [Act.put, List.getElem_toArray, List.getElem_cons_zero, List.getElem_cons_succ, List.setIfInBounds_toArray, List.set_cons_zero, List.set_cons_succ]
                refine wpAnyH_take (i := 6) (v := .pointer (some ⟨G, 0, none⟩)) rfl (by kernel_rfl) (by kernel_rfl) (by kernel_rfl) (fun _ _ _ h => h) (Or.inl ⟨by rfl, fun w _ => by rfl⟩) hS ?_
                try simp only [Act.put, List.getElem_toArray, List.getElem_cons_zero, List.getElem_cons_succ, List.setIfInBounds_toArray, List.set_cons_zero, List.set_cons_succ]
                refine wpAnyH_take (i := 7) (v := .int .i64 k) rfl (by kernel_rfl) (by kernel_rfl) (by kernel_rfl) (fun _ _ _ h => h) (Or.inl ⟨by rfl, fun w _ => by rfl⟩) hS ?_
                try simp only [Act.put, List.getElem_toArray, List.getElem_cons_zero, List.getElem_cons_succ, List.setIfInBounds_toArray, List.set_cons_zero, List.set_cons_succ]
                refine wpAnyH_take (i := 9) (v := .int .i64 k) rfl (by kernel_rfl) (by kernel_rfl) (by kernel_rfl) (fun _ _ _ h => h) (Or.inl ⟨by rfl, fun w _ => by rfl⟩) hS ?_
                try simp only [Act.put, List.getElem_toArray, List.getElem_cons_zero, List.getElem_cons_succ, List.setIfInBounds_toArray, List.set_cons_zero, List.set_cons_succ]
                refine wpAnyH_take (i := 10) (v := .pointer (some ⟨P, k * 256, none⟩)) rfl (by kernel_rfl) (by kernel_rfl) (by kernel_rfl) (fun _ _ _ h => h) (Or.inl ⟨by rfl, fun w _ => by go_simp⟩) hS ?_
                try simp only [Act.put, List.getElem_toArray, List.getElem_cons_zero, List.getElem_cons_succ, List.setIfInBounds_toArray, List.set_cons_zero, List.set_cons_succ]
                refine wpAnyH_take (i := 11) (v := .agg (bs (d.seen k))) rfl (by kernel_rfl) (by kernel_rfl) (by kernel_rfl) (fun _ _ _ h => h) (yields_mid (by rfl) 35 (.tmp 97) rfl P (k * 256) rfl (d.seen k) (fun w h => h.2.1.get k hk8) Try.underlying35 rfl (by rw [size35, hl1])) hS ?_
                try simp only [Act.put, List.getElem_toArray, List.getElem_cons_zero, List.getElem_cons_succ, List.setIfInBounds_toArray, List.set_cons_zero, List.set_cons_succ]
                refine wpAnyH_ready (rs := [8]) (by kernel_rfl) (by simp) ?_
                refine AllReadyH.cons rfl (fun K hK => ?_) AllReadyH.nil
                go_simp
                go_at_call 22
                refine (seen_to hS.1.at_ k hb (d.seen k) hse).mono ?_
                rintro e wc ⟨rfl, hcb⟩
                refine hK.out _ _ (⟨hS.1.down hcb, hS.2.1.below hcb, hS.2.2.below hcb⟩) fun hS => ?_
                try simp only [Act.put, List.getElem_toArray, List.getElem_cons_zero, List.getElem_cons_succ, List.setIfInBounds_toArray, List.set_cons_zero, List.set_cons_succ]
                refine wpAnyH_take (i := 12) (v := .bool false) rfl (by kernel_rfl) (by kernel_rfl) (by kernel_rfl) (fun _ _ _ h => h) (yields_neq (by rfl) 35 35 (.tmp 95) (.tmp 98) rfl (bs (d.seen k)) (bs (d.seen k)) rfl rfl Try.eqGuardType35 true he1.out) hS ?_
                try simp only [Act.put, List.getElem_toArray, List.getElem_cons_zero, List.getElem_cons_succ, List.setIfInBounds_toArray, List.set_cons_zero, List.set_cons_succ]
                refine wpAnyH_take (i := 13) (v := .bool false) rfl (by kernel_rfl) (by kernel_rfl) (by kernel_rfl) (fun _ _ _ h => h) (Or.inl ⟨by rfl, fun w _ => by go_simp⟩) hS ?_
                try simp only [Act.put, List.getElem_toArray, List.getElem_cons_zero, List.getElem_cons_succ, List.setIfInBounds_toArray, List.set_cons_zero, List.set_cons_succ]
                refine wpAnyH_take (i := 14) (v := .bool false) rfl (by kernel_rfl) (by kernel_rfl) (by kernel_rfl) (fun _ _ _ h => h) (Or.inl ⟨by rfl, fun w _ => by rfl⟩) hS ?_
                try simp only [Act.put, List.getElem_toArray, List.getElem_cons_zero, List.getElem_cons_succ, List.setIfInBounds_toArray, List.set_cons_zero, List.set_cons_succ]
                refine wpAnyH_take (i := 15) (v := .pointer (some ⟨G, 0, none⟩)) rfl (by kernel_rfl) (by kernel_rfl) (by kernel_rfl) (fun _ _ _ h => h) (Or.inl ⟨by rfl, fun w _ => by rfl⟩) hS ?_
                try simp only [Act.put, List.getElem_toArray, List.getElem_cons_zero, List.getElem_cons_succ, List.setIfInBounds_toArray, List.set_cons_zero, List.set_cons_succ]
                refine wpAnyH_take (i := 16) (v := .int .i64 k) rfl (by kernel_rfl) (by kernel_rfl) (by kernel_rfl) (fun _ _ _ h => h) (Or.inl ⟨by rfl, fun w _ => by rfl⟩) hS ?_
                try simp only [Act.put, List.getElem_toArray, List.getElem_cons_zero, List.getElem_cons_succ, List.setIfInBounds_toArray, List.set_cons_zero, List.set_cons_succ]
                refine wpAnyH_take (i := 18) (v := .pointer (some ⟨G, 0, none⟩)) rfl (by kernel_rfl) (by kernel_rfl) (by kernel_rfl) (fun _ _ _ h => h) (Or.inl ⟨by rfl, fun w _ => by rfl⟩) hS ?_
                try simp only [Act.put, List.getElem_toArray, List.getElem_cons_zero, List.getElem_cons_succ, List.setIfInBounds_toArray, List.set_cons_zero, List.set_cons_succ]
                refine wpAnyH_take (i := 19) (v := .int .i64 k) rfl (by kernel_rfl) (by kernel_rfl) (by kernel_rfl) (fun _ _ _ h => h) (Or.inl ⟨by rfl, fun w _ => by rfl⟩) hS ?_
                try simp only [Act.put, List.getElem_toArray, List.getElem_cons_zero, List.getElem_cons_succ, List.setIfInBounds_toArray, List.set_cons_zero, List.set_cons_succ]
                refine wpAnyH_ready (rs := [17]) (by kernel_rfl) (by simp) ?_
                refine AllReadyH.cons rfl (fun K hK => ?_) AllReadyH.nil
                go_simp
                go_at_call 24
                refine (sure_to hS.1.at_ k hb X hX2).mono ?_
                rintro e wc ⟨rfl, hcb⟩
                refine hK.out _ _ (⟨hS.1.down hcb, hS.2.1.below hcb, hS.2.2.below hcb⟩) fun hS => ?_
                try simp only [Act.put, List.getElem_toArray, List.getElem_cons_zero, List.getElem_cons_succ, List.setIfInBounds_toArray, List.set_cons_zero, List.set_cons_succ]
                refine wpAnyH_ready (rs := [20]) (by kernel_rfl) (by simp) ?_
                refine AllReadyH.cons rfl (fun K hK => ?_) AllReadyH.nil
                go_simp
                go_at_call 22
                refine (seen_to hS.1.at_ k hb X hX1).mono ?_
                rintro e wc ⟨rfl, hcb⟩
                refine hK.out _ _ (⟨hS.1.down hcb, hS.2.1.below hcb, hS.2.2.below hcb⟩) fun hS => ?_
                try simp only [Act.put, List.getElem_toArray, List.getElem_cons_zero, List.getElem_cons_succ, List.setIfInBounds_toArray, List.set_cons_zero, List.set_cons_succ]
                refine wpAnyH_take (i := 21) (v := .bool false) rfl (by kernel_rfl) (by kernel_rfl) (by kernel_rfl) (fun _ _ _ h => h) (yields_neq (by rfl) 35 35 (.tmp 104) (.tmp 107) rfl (bs X) (bs X) rfl rfl Try.eqGuardType35 true he2.out) hS ?_
                try simp only [Act.put, List.getElem_toArray, List.getElem_cons_zero, List.getElem_cons_succ, List.setIfInBounds_toArray, List.set_cons_zero, List.set_cons_succ]
                refine wpAnyH_take (i := 22) (v := .bool false) rfl (by kernel_rfl) (by kernel_rfl) (by kernel_rfl) (fun _ _ _ h => h) (Or.inl ⟨by rfl, fun w _ => by go_simp⟩) hS ?_
                try simp only [Act.put, List.getElem_toArray, List.getElem_cons_zero, List.getElem_cons_succ, List.setIfInBounds_toArray, List.set_cons_zero, List.set_cons_succ]
                refine wpAnyH_done (by kernel_rfl) ?_ _
                go_wp2
                go_roundw
                case rel => exact ⟨k + 1, by go_num, by omega, hS.1, hS.2.1, hS.2.2⟩
                case measure => simp [intOf]; omega
              · skip
                go_upto_region 27 with fail
                refine wp_region_held_drew (S := fun w' => Dw w w' G e L4 800 ∧ Grid w' P 256 256 (fun j => d.seen j) ∧ Flags w' Kf 256 ov) (by kernel_rfl) ⟨S.down (Below.refl _ _).drew, G1.drew, F1.below (Below.refl _ _).drew⟩ fun hS => ?_
                clear S G1 F1
                refine wpAnyH_take (i := 0) (v := .slice (some ⟨Kf, 0, none⟩) 256 256) rfl (by kernel_rfl) (by kernel_rfl) (by kernel_rfl) (fun _ _ _ h => h) (Or.inl ⟨by rfl, fun w _ => by rfl⟩) hS ?_
                try simp only [Act.put, List.getElem_toArray, List.getElem_cons_zero, List.getElem_cons_succ, List.setIfInBounds_toArray, List.set_cons_zero, List.set_cons_succ]
                refine wpAnyH_take (i := 1) (v := .int .i64 k) rfl (by kernel_rfl) (by kernel_rfl) (by kernel_rfl) (fun _ _ _ h => h) (Or.inl ⟨by rfl, fun w _ => by rfl⟩) hS ?_
                try simp only [Act.put, List.getElem_toArray, List.getElem_cons_zero, List.getElem_cons_succ, List.setIfInBounds_toArray, List.set_cons_zero, List.set_cons_succ]
                refine wpAnyH_take (i := 2) (v := .pointer (some ⟨Kf, k, none⟩)) rfl (by kernel_rfl) (by kernel_rfl) (by kernel_rfl) (fun _ _ _ h => h) (Or.inl ⟨by rfl, fun w _ => by go_simp⟩) hS ?_
                try simp only [Act.put, List.getElem_toArray, List.getElem_cons_zero, List.getElem_cons_succ, List.setIfInBounds_toArray, List.set_cons_zero, List.set_cons_succ]
                refine wpAnyH_take (i := 3) (v := .bool true) rfl (by kernel_rfl) (by kernel_rfl) (by kernel_rfl) (fun _ _ _ h => h) (Or.inl ⟨by rfl, fun w h => by have c := h.2.2.at_ k hk8; rw [hov] at c; go_simp⟩) hS ?_
                try simp only [Act.put, List.getElem_toArray, List.getElem_cons_zero, List.getElem_cons_succ, List.setIfInBounds_toArray, List.set_cons_zero, List.set_cons_succ]
                refine wpAnyH_take (i := 4) (v := .bool false) rfl (by kernel_rfl) (by kernel_rfl) (by kernel_rfl) (fun _ _ _ h => h) (Or.inl ⟨by rfl, fun w _ => by go_simp⟩) hS ?_
                try simp only [Act.put, List.getElem_toArray, List.getElem_cons_zero, List.getElem_cons_succ, List.setIfInBounds_toArray, List.set_cons_zero, List.set_cons_succ]
                refine wpAnyH_take (i := 5) (v := .bool false) rfl (by kernel_rfl) (by kernel_rfl) (by kernel_rfl) (fun _ _ _ h => h) (Or.inl ⟨by rfl, fun w _ => by rfl⟩) hS ?_
                try simp only [Act.put, List.getElem_toArray, List.getElem_cons_zero, List.getElem_cons_succ, List.setIfInBounds_toArray, List.set_cons_zero, List.set_cons_succ]
                refine wpAnyH_take (i := 6) (v := undef) rfl (by kernel_rfl) (by kernel_rfl) (by kernel_rfl) (fun _ _ _ h => h) (Or.inr ⟨by rfl, rfl⟩) hS ?_
                try simp only [Act.put, List.getElem_toArray, List.getElem_cons_zero, List.getElem_cons_succ, List.setIfInBounds_toArray, List.set_cons_zero, List.set_cons_succ]
                refine wpAnyH_take (i := 7) (v := undef) rfl (by kernel_rfl) (by kernel_rfl) (by kernel_rfl) (fun _ _ _ h => h) (Or.inr ⟨by rfl, rfl⟩) hS ?_
                try simp only [Act.put, List.getElem_toArray, List.getElem_cons_zero, List.getElem_cons_succ, List.setIfInBounds_toArray, List.set_cons_zero, List.set_cons_succ]
                refine wpAnyH_take (i := 8) (v := undef) rfl (by kernel_rfl) (by kernel_rfl) (by kernel_rfl) (fun _ _ _ h => h) (Or.inr ⟨by rfl, rfl⟩) hS ?_
                try simp only [Act.put, List.getElem_toArray, List.getElem_cons_zero, List.getElem_cons_succ, List.setIfInBounds_toArray, List.set_cons_zero, List.set_cons_succ]
                refine wpAnyH_take (i := 9) (v := undef) rfl (by kernel_rfl) (by kernel_rfl) (by kernel_rfl) (fun _ _ _ h => h) (Or.inr ⟨by rfl, rfl⟩) hS ?_
                try simp only [Act.put, List.getElem_toArray, List.getElem_cons_zero, List.getElem_cons_succ, List.setIfInBounds_toArray, List.set_cons_zero, List.set_cons_succ]
                refine wpAnyH_take (i := 10) (v := undef) rfl (by kernel_rfl) (by kernel_rfl) (by kernel_rfl) (fun _ _ _ h => h) (Or.inr ⟨by rfl, rfl⟩) hS ?_
                try simp only [Act.put, List.getElem_toArray, List.getElem_cons_zero, List.getElem_cons_succ, List.setIfInBounds_toArray, List.set_cons_zero, List.set_cons_succ]
                refine wpAnyH_take (i := 11) (v := undef) rfl (by kernel_rfl) (by kernel_rfl) (by kernel_rfl) (fun _ _ _ h => h) (Or.inr ⟨by rfl, rfl⟩) hS ?_
                try simp only [Act.put, List.getElem_toArray, List.getElem_cons_zero, List.getElem_cons_succ, List.setIfInBounds_toArray, List.set_cons_zero, List.set_cons_succ]
                refine wpAnyH_take (i := 12) (v := undef) rfl (by kernel_rfl) (by kernel_rfl) (by kernel_rfl) (fun _ _ _ h => h) (Or.inr ⟨by rfl, rfl⟩) hS ?_
                try simp only [Act.put, List.getElem_toArray, List.getElem_cons_zero, List.getElem_cons_succ, List.setIfInBounds_toArray, List.set_cons_zero, List.set_cons_succ]
                refine wpAnyH_take (i := 13) (v := .bool false) rfl (by kernel_rfl) (by kernel_rfl) (by kernel_rfl) (fun _ _ _ h => h) (Or.inl ⟨by rfl, fun w _ => by go_simp⟩) hS ?_
                try simp only [Act.put, List.getElem_toArray, List.getElem_cons_zero, List.getElem_cons_succ, List.setIfInBounds_toArray, List.set_cons_zero, List.set_cons_succ]
                refine wpAnyH_take (i := 14) (v := .bool false) rfl (by kernel_rfl) (by kernel_rfl) (by kernel_rfl) (fun _ _ _ h => h) (Or.inl ⟨by rfl, fun w _ => by rfl⟩) hS ?_
                try simp only [Act.put, List.getElem_toArray, List.getElem_cons_zero, List.getElem_cons_succ, List.setIfInBounds_toArray, List.set_cons_zero, List.set_cons_succ]
                refine wpAnyH_take (i := 15) (v := .pointer (some ⟨G, 0, none⟩)) rfl (by kernel_rfl) (by kernel_rfl) (by kernel_rfl) (fun _ _ _ h => h) (Or.inl ⟨by rfl, fun w _ => by rfl⟩) hS ?_
                try simp only [Act.put, List.getElem_toArray, List.getElem_cons_zero, List.getElem_cons_succ, List.setIfInBounds_toArray, List.set_cons_zero, List.set_cons_succ]
                refine wpAnyH_take (i := 16) (v := .int .i64 k) rfl (by kernel_rfl) (by kernel_rfl) (by kernel_rfl) (fun _ _ _ h => h) (Or.inl ⟨by rfl, fun w _ => by rfl⟩) hS ?_
                try simp only [Act.put, List.getElem_toArray, List.getElem_cons_zero, List.getElem_cons_succ, List.setIfInBounds_toArray, List.set_cons_zero, List.set_cons_succ]
                refine wpAnyH_take (i := 18) (v := .pointer (some ⟨G, 0, none⟩)) rfl (by kernel_rfl) (by kernel_rfl) (by kernel_rfl) (fun _ _ _ h => h) (Or.inl ⟨by rfl, fun w _ => by rfl⟩) hS ?_
                try simp only [Act.put, List.getElem_toArray, List.getElem_cons_zero, List.getElem_cons_succ, List.setIfInBounds_toArray, List.set_cons_zero, List.set_cons_succ]
                refine wpAnyH_take (i := 19) (v := .int .i64 k) rfl (by kernel_rfl) (by kernel_rfl) (by kernel_rfl) (fun _ _ _ h => h) (Or.inl ⟨by rfl, fun w _ => by rfl⟩) hS ?_
                try simp only [Act.put, List.getElem_toArray, List.getElem_cons_zero, List.getElem_cons_succ, List.setIfInBounds_toArray, List.set_cons_zero, List.set_cons_succ]
                refine wpAnyH_ready (rs := [17]) (by kernel_rfl) (by simp) ?_
                refine AllReadyH.cons rfl (fun K hK => ?_) AllReadyH.nil
                go_simp
                go_at_call 24
                refine (sure_to hS.1.at_ k hb X hX2).mono ?_
                rintro e wc ⟨rfl, hcb⟩
                refine hK.out _ _ (⟨hS.1.down hcb, hS.2.1.below hcb, hS.2.2.below hcb⟩) fun hS => ?_
                try simp only [Act.put, List.getElem_toArray, List.getElem_cons_zero, List.getElem_cons_succ, List.setIfInBounds_toArray, List.set_cons_zero, List.set_cons_succ]
                refine wpAnyH_ready (rs := [20]) (by kernel_rfl) (by simp) ?_
                refine AllReadyH.cons rfl (fun K hK => ?_) AllReadyH.nil
                go_simp
                go_at_call 22
                refine (seen_to hS.1.at_ k hb X hX1).mono ?_
                rintro e wc ⟨rfl, hcb⟩
                refine hK.out _ _ (⟨hS.1.down hcb, hS.2.1.below hcb, hS.2.2.below hcb⟩) fun hS => ?_
                try simp only [Act.put, List.getElem_toArray, List.getElem_cons_zero, List.getElem_cons_succ, List.setIfInBounds_toArray, List.set_cons_zero, List.set_cons_succ]
                refine wpAnyH_take (i := 21) (v := .bool false) rfl (by kernel_rfl) (by kernel_rfl) (by kernel_rfl) (fun _ _ _ h => h) (yields_neq (by rfl) 35 35 (.tmp 104) (.tmp 107) rfl (bs X) (bs X) rfl rfl Try.eqGuardType35 true he2.out) hS ?_
                try simp only [Act.put, List.getElem_toArray, List.getElem_cons_zero, List.getElem_cons_succ, List.setIfInBounds_toArray, List.set_cons_zero, List.set_cons_succ]
                refine wpAnyH_take (i := 22) (v := .bool false) rfl (by kernel_rfl) (by kernel_rfl) (by kernel_rfl) (fun _ _ _ h => h) (Or.inl ⟨by rfl, fun w _ => by go_simp⟩) hS ?_
                try simp only [Act.put, List.getElem_toArray, List.getElem_cons_zero, List.getElem_cons_succ, List.setIfInBounds_toArray, List.set_cons_zero, List.set_cons_succ]
                refine wpAnyH_done (by kernel_rfl) ?_ _
                go_wp2
                go_roundw
                case rel => exact ⟨k + 1, by go_num, by omega, hS.1, hS.2.1, hS.2.2⟩
                case measure => simp [intOf]; omega
            · have hk8' : ¬ (k : Int) < 256 := by omega
              obtain rfl : k = 256 := by omega
              go_wp2
              go_meet
              exact S
        case rest =>
          have S9 := hcut
          clear S8 G8 F8
          have hpe := pending_any S9.at_
          rw [hd4] at hpe
          go_wp2_with (first
            | (go_at_call 20; refine hpe.mono ?_; rintro e w2 ⟨rfl, rfl⟩)
            | (go_at_call 10; refine (awake_any _).mono ?_; rintro e w5 ⟨rfl, b5⟩))
          go_ret
          exact ⟨rfl, (S9.down b5).below⟩

set_option maxRecDepth 100000 in
theorem lifted (os : Os) (started : os.Started) (H : Type) (enc : TypeId × Value → H) :
    ReturnsInHanded {} Try.checked os 4 .any (Rows.diskLastsSpec.pre6 enc Try.prog Try.f4 Rows.diskLastsRow.domain false) (Rows.diskLastsSpec.post enc Try.prog Try.f4 false true false false) := by
  refine returnsInHanded_of_change_sized (C := Try.checked) own started (by kernel_rfl) Try.func4
    (ChangeSpec.witness6 (enc := enc) (C := Try.checked) false ⟨#[], #[.slice none 0 0, .slice none 0 0, .slice none 0 0], []⟩ 8 (by kernel_rfl) (by kernel_rfl) (by kernel_rfl) (by kernel_rfl)) ?_
  intro W base args ds gs before hval0 hW hcnd hsz0 _
  have hval : ∀ (j : Nat) t v, Try.f4.params[j]? = some t → args[j]? = some v → Value.okWide Try.prog W .any base t v := hval0
  have hW' := hW
  obtain ⟨p, q, hA0, hV, rfl, hfz, hnd⟩ := hW
  have hA : DataW.TrodAll enc Try.prog W 0 (fun _ => true) true Try.f4.params.toList args.toList ds p := hA0
  have hsz : (DataW.weightsEach Try.prog (Try.f4.params.toList ++ []) (ds ++ gs)).all (· ≤ reachBytes) = true := hsz0
  rw [Try.params4] at hA hval hsz
  obtain ⟨v0, vs0, d0, ds0, p0, q0, hargs, rfl, rfl, h0, r0⟩ := trodAll_cons hA
  obtain ⟨v1, vs1, d1, ds1, p1, q1, rfl, rfl, rfl, h1, r1⟩ := trodAll_cons r0
  obtain ⟨v2, vs2, d2, ds2, p2, q2, rfl, rfl, rfl, h2, r2⟩ := trodAll_cons r1
  obtain ⟨rfl, rfl, rfl⟩ := trodAll_nil r2
  obtain rfl : args = #[v0, v1, v2] := by cases args; simp_all
  obtain ⟨rfl, rfl⟩ := trodVars_none hV
  simp only [List.append_nil] at hsz
  have hlt : ∀ x ∈ (p0 ++ (p1 ++ (p2 ++ []))), x.block < W.heap.size := fun x hx => hW'.lt x (by simpa using hx)
  have hw0 : (d0.weights Try.prog 49).all (· ≤ reachBytes) = true := List.all_eq_true.2 fun m hm => List.all_eq_true.1 hsz m (by simp [DataW.weightsEach, hm])
  have hw1 : (d1.weights Try.prog 49).all (· ≤ reachBytes) = true := List.all_eq_true.2 fun m hm => List.all_eq_true.1 hsz m (by simp [DataW.weightsEach, hm])
  have hw2 : (d2.weights Try.prog 31).all (· ≤ reachBytes) = true := List.all_eq_true.2 fun m hm => List.all_eq_true.1 hsz m (by simp [DataW.weightsEach, hm])
  have k0 := h0
  have k1 := h1
  have k2 := h2
  obtain ⟨a0, w0⟩ := open_u8s (hval 0 49 v0 rfl rfl) h0 hw0
  obtain ⟨a1, w1⟩ := open_u8s (hval 1 49 v1 rfl rfl) h1 hw1
  obtain ⟨a2, w2⟩ := open_boolsv (hval 2 31 v2 rfl rfl) h2 hw2
  clear hA0 hval0
  simp only [List.append_nil] at hW'
  refine (walk W v0 a0 v1 a1 v2 a2 w0 w1 w2).mono fun e W' ⟨he, hg⟩ => ?_
  subst he
  exact ⟨_, rfl, ⟨_, _, _, [], (p0 ++ (p1 ++ (p2 ++ []))), [], hW', (trodAll_cons_mk (shut_bool Try.underlying4 _) trodAll_mk0), (trodAll_cons_mk (Below.trod laid (by kernel_rfl) (of_decide_eq_true (by kernel_rfl)) k0 hg (fun x hx => hlt x (by simp [hx]))) (trodAll_cons_mk (Below.trod laid (by kernel_rfl) (of_decide_eq_true (by kernel_rfl)) k1 hg (fun x hx => hlt x (by simp [hx]))) (trodAll_cons_mk (Below.trod laid (by kernel_rfl) (of_decide_eq_true (by kernel_rfl)) k2 hg (fun x hx => hlt x (by simp [hx]))) trodAll_mk0))), rfl,
    hg.frame _, fun h => by cases h⟩⟩

theorem over : Rows.diskLastsRow.holds Try.pinned (OpenSpec.ofChange Rows.diskLastsSpec) :=
  OpenClaim.holds_of_wide 4 Try.f4 rfl rfl rfl rfl rfl rfl rfl ⟨rfl, rfl, rfl, rfl, rfl⟩ rfl rfl rfl rfl rfl (by kernel_rfl) Try.func4 (by kernel_rfl)
    (of_decide_eq_true (by kernel_rfl)) (by unfold Func.isWrapper; first | (rw [if_pos (by decide +kernel)]; kernel_rfl) | (rw [if_neg (by decide +kernel)]; exact ⟨rfl, rfl⟩))
    (fun os started H enc _ => lifted os started H enc)

/-- The statement. -/
theorem proved : Rows.DiskLastsSaid :=
  over
#print axioms proved
end Go.Proofs.Ytkgmhliocfbdfaa.diskLasts
