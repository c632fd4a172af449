/-
  Proved: for every list of calls of a disk and either Boolean the Go function varvelaw05.DiskKept returns true and leaves its arguments as they were; no condition.
-/
import Derived.Test.YtkgmhliocfbdfaaEight
namespace Go.Proofs.Ytkgmhliocfbdfaa.diskKept
open Go.ChangeShapes Go.WideShapes Go.ChangeAt Go.RowKit
open Go.Deep
set_option linter.unusedVariables false
set_option linter.unusedSimpArgs false

theorem own : ownKnob Try.prog.godebug = none := by kernel_rfl

set_option maxHeartbeats 4000000 in
set_option maxRecDepth 20000 in
theorem walk (w : World) (v : Value) (cs : List Call) (all : Bool) (hs : Script w v cs) :
    Calls Try.prog 5 #[v, .bool all] w fun e w' => e = .returned (.bool true) ∧ Below w.heap.size w w' := by
  obtain ⟨oa, cap, rfl, hlen, hcs⟩ := hs.open
  have HCS : Hid _ := hcs
  clear hcs hs
  obtain ⟨n, HN⟩ : ∃ n, Hid (cs.length = n) := ⟨_, rfl⟩
  rw [HN.out] at HCS hlen ⊢
  have hnew := new_some 8 (by omega) (by omega) w
  have HNF : Hid (∀ j, foot (w.heap.size + 2) (Loc.new w.heap.size) j → w.heap.size ≤ j) := fun j hj => new_foot _ j hj
  generalize Loc.new w.heap.size = L0 at hnew HNF
  generalize w.heap.size + 2 = G at hnew HNF
  go_enter Try.func5, Try.ntmps5
  go_upto_block 0 with (go_at_call 9; refine hnew.mono ?_; rintro e w1 ⟨rfl, D1, B1⟩)
  have S1 : Dw w w1 G (Dsk.new 8) L0 0 := ⟨D1, B1, HNF.out⟩
  clear D1 B1 HNF hnew
  have Z33 := zero33
  go_cut [] from 18 to 33 (fun wr => ∃ (d : Dsk) (L : Loc), Hid (Eight d 40) ∧ Dw w wr G d L 160)
  case first =>
    go_wp2_with fail
    go_loopw [6] (fun c wr => ∃ (k : Nat) (d : Dsk) (L : Loc), c = .int .i64 k ∧ k ≤ 40 ∧ Hid (Eight d k) ∧ Dw w wr G d L (4 * k)) (fun c _ => 40 - (intOf c).toNat)
    case atStart => exact ⟨0, _, _, rfl, by omega, ⟨rfl, by simp [Dsk.new], by simp [Dsk.new]⟩, S1⟩
    case round =>
      clear S1
      obtain ⟨k, d, L, rfl, hk, HC, S⟩ := hrel
      by_cases hkl : k < n
      · have hkl' : (k : Int) < (n : Int) := by omega
        by_cases hk30 : k < 40
        · have hk30' : (k : Int) < 40 := by omega
          obtain ⟨a, ⟨kd', b', y', fs', ks', zl', bl'⟩, rfl, ok0, hcell⟩ := HCS.out k hkl
          have ok1 := ok0.keep S.below
          have hcw : ∀ j u, [Value.int .i64 kd', .int .i64 b', .int .u8 y', fs', ks'][j]? = some u → wr.cell? ((a.add (k * 5)).add j) = some u := fun j u hj => cell_keep (hcell j u hj) S.below
          have HCW := show Hid _ from hcw
          clear hcw hcell ok0
          have hdo := do_disk S.at_ (by have := HC.out.hi; omega) (by omega) ⟨kd', b', y', fs', ks', zl', bl'⟩ ok1
          have hcm := act_eight HC.out (by omega) ⟨kd', b', y', fs', ks', zl', bl'⟩
          generalize act d ⟨kd', b', y', fs', ks', zl', bl'⟩ = rr at hdo hcm
          obtain ⟨X, E, r⟩ := rr
          simp only at hdo hcm
          have HCM := show Hid _ from hcm
          clear hcm
          go_upto_region 7 with fail
          have hcw := HCW.out
          have tl : Hid (1 = 1) := rfl
          go_wp2_with (first
            | (have hh := tl; clear hh tl; refine wpList_load_any rfl 33 (.tmp 31) rfl (a.add (k * 5)) rfl [.int .i64 kd', .int .i64 b', .int .u8 y', fs', ks'] _ hcw Try.underlying33 rfl size33 ?_)
            | (go_at_call 11; refine hdo.mono ?_; rintro e w7 ⟨rfl, CR⟩))
          go_roundw
          case rel =>
            obtain ⟨L', S', _⟩ := S.step CR
            exact ⟨k + 1, r, L', by go_num, by omega, HCM.out, S'.grow (by omega) (by omega)⟩
          case measure => simp [intOf]; omega
        · have hk30' : ¬ (k : Int) < 40 := by omega
          go_wp2
          go_meet
          obtain rfl : k = 40 := by omega
          exact ⟨d, L, HC, S⟩
      · have hkl' : ¬ (k : Int) < (n : Int) := by omega
        go_wp2
        go_meet
        exact ⟨d, L, ⟨HC.out.size, HC.out.lo, by have := HC.out.hi; omega⟩, S.grow (by omega) (by omega)⟩
  case rest =>
    obtain ⟨d, L, HC, S⟩ := hcut
    clear S1 HCS Z33
    have hz55 := zero55
    have hz35 := zero35
    go_upto_block 2 with fail
    have x1 : Row ((wc.alloc (.cells (bs (zs 2048)) 55)).alloc (.cells (bs (zs 2048)) 55)) wc.heap.size (bs (zs 2048)) 55 := (Row.new _ _ _).alloc _
    have x2 : Row ((wc.alloc (.cells (bs (zs 2048)) 55)).alloc (.cells (bs (zs 2048)) 55)) (wc.heap.size + 1) (bs (zs 2048)) 55 := by have := Row.new (wc.alloc (.cells (bs (zs 2048)) 55)) (bs (zs 2048)) 55; simpa using this
    have S2 := S.down (((Below.refl wc.heap.size wc).alloc (Nat.le_refl _) (.cells (bs (zs 2048)) 55)).alloc (by simp) (.cells (bs (zs 2048)) 55))
    have G1 : Grid _ wc.heap.size 8 0 (fun j => d.seen j) := Grid.start x1 (by rw [bs_size, zs_length]) _
    have G2 : Grid _ (wc.heap.size + 1) 8 0 (fun j => d.sure.block j) := Grid.start x2 (by rw [bs_size, zs_length]) _
    have hP : ∀ j, foot G L j → j < wc.heap.size := fun j hj => S.at_.lt hj
    have hn8 : d.n = 8 := HC.out.size
    have HPo : Hid (¬ foot G L wc.heap.size) := fun q => by have := hP _ q; omega
    have HPo' : Hid (¬ foot G L (wc.heap.size + 1)) := fun q => by have := hP _ q; omega
    have HPb : Hid (w.heap.size ≤ wc.heap.size) := S.below.size
    have HL1 : Hid (∀ j : Nat, j < 8 → (d.seen j).length = 256) := fun j hj => (Dsk.seen_length S2.at_ j ⟨by omega, by rw [hn8]; omega⟩).1
    have HL2 : Hid (∀ j : Nat, j < 8 → (d.sure.block j).length = 256) := fun j hj => sure_length S2.at_ j ⟨by omega, by rw [hn8]; omega⟩
    clear S x1 x2 hP
    generalize (wc.alloc (.cells (bs (zs 2048)) 55)).alloc (.cells (bs (zs 2048)) 55) = wd at S2 G1 G2 ⊢
    generalize wc.heap.size = P at G1 G2 HPo HPo' HPb ⊢
    go_cut [] from 34 to 47 (fun wr => Dw w wr G d L 160 ∧ Grid wr P 8 8 (fun j => d.seen j) ∧ Grid wr (P + 1) 8 8 (fun j => d.sure.block j))
    case first =>
      go_wp2_with fail
      go_loopw [9] (fun c wr => ∃ (k : Nat), c = .int .i64 k ∧ k ≤ 8 ∧ Dw w wr G d L 160 ∧ Grid wr P 8 k (fun j => d.seen j) ∧ Grid wr (P + 1) 8 k (fun j => d.sure.block j)) (fun c _ => 8 - (intOf c).toNat)
      case atStart => exact ⟨0, rfl, by omega, S2, G1, G2⟩
      case round =>
        clear S2 G1 G2
        obtain ⟨k, rfl, hk, S, G1, G2⟩ := hrel
        by_cases hk8 : k < 8
        · have hk8' : (k : Int) < 8 := by omega
          have hb : 0 ≤ (k : Int) ∧ (k : Int) < d.n := ⟨by omega, by rw [hn8]; omega⟩
          have hse := seen_in S.at_ k hb
          have hl1 := HL1.out k hk8
          have hl2 := HL2.out k hk8
          have t1 : Hid (1 = 1) := rfl
          have t2 : Hid (1 = 1) := rfl
          go_wp2_with (first
            | (go_at_call 22; refine hse.mono ?_; rintro e w2 ⟨rfl, b2⟩
               have G3 := G1.below b2
               have S3 := S.down b2
               have G4 := G2.below b2)
            | (have hh := t1; clear hh t1; refine store_grid rfl 35 (.tmp 42) (.tmp 41) rfl P k (d.seen k) _ rfl (add_at _ _) rfl (G3.there k hk8) size35 hl1 ?_
               have S5 := S3.cells P (256 * k) ((d.seen k).map (Value.int .u8)) HPo.out HPb.out
               have G5 := G3.put hk8 HL1.out
               have G6 := G4.off (off_setCells P ((d.seen k).map (Value.int .u8)) (256 * k) _) (by omega)
               clear S3 G3 G4
               generalize World.setCells w2 P (256 * k) ((d.seen k).map (Value.int .u8)) = w3 at S5 G5 G6 ⊢))
          have hsu := sure_in S5.at_ k hb
          go_wp2_with (first
            | (go_at_call 24; refine hsu.mono ?_; rintro e w4 ⟨rfl, b4⟩
               have G7 := G5.below b4
               have S7 := S5.down b4
               have G8 := G6.below b4)
            | (have hh := t2; clear hh t2; refine store_grid rfl 35 (.tmp 47) (.tmp 46) rfl (P + 1) k (d.sure.block k) _ rfl (add_at _ _) rfl (G8.there k hk8) size35 hl2 ?_
               have S9 := S7.cells (P + 1) (256 * k) ((d.sure.block k).map (Value.int .u8)) HPo'.out (by have := HPb.out; omega)
               have G9 := G8.put hk8 HL2.out
               have G10 := G7.off (off_setCells (P + 1) ((d.sure.block k).map (Value.int .u8)) (256 * k) _) (by omega)
               clear S7 G7 G8
               generalize World.setCells w4 (P + 1) (256 * k) ((d.sure.block k).map (Value.int .u8)) = w5 at S9 G9 G10 ⊢))
          go_roundw
          case rel => exact ⟨k + 1, by go_num, by omega, S9, G10, G9⟩
          case measure => simp [intOf]; omega
        · have hk8' : ¬ (k : Int) < 8 := by omega
          obtain rfl : k = 8 := by omega
          go_wp2
          go_meet
          exact ⟨S, G1, G2⟩
    case rest =>
      obtain ⟨S3, G3, G4⟩ := hcut
      clear S2 G1 G2
      have hpe := pending_any S3.at_
      have hpn : d.pend.length ≤ 160 := by obtain ⟨s, _, h⟩ := S3.at_.sure; omega
      obtain ⟨m, HM⟩ : ∃ m, Hid (d.pend.length = m) := ⟨_, rfl⟩
      rw [HM.out] at hpe hpn
      have hmk := run_make_row' (P := Try.prog) 31 4 (.bool false) 1 Try.underlying31 info4 rfl .i64 .i64 m (by omega) (by omega)
      have hK : ∀ j, foot G L j → j < wc.heap.size := fun j hj => S3.at_.lt hj
      have HKo : Hid (¬ foot G L wc.heap.size) := fun q => by have := hK _ q; omega
      have HKb : Hid (w.heap.size ≤ wc.heap.size) := S3.below.size
      have ab := (Below.refl wc.heap.size wc).alloc (Nat.le_refl _) (.cells (madeCells #[.bool false] m) 4)
      have S4 := S3.down ab
      have G5 := G3.below ab
      have G6 := G4.below ab
      have HNP : Hid (wc.heap.size ≠ P ∧ wc.heap.size ≠ P + 1) := ⟨fun q => by have := G3.lt; omega, fun q => by have := G4.lt; omega⟩
      have A0 : Alls (wc.alloc (.cells (madeCells #[.bool false] m) 4)) wc.heap.size m 0 all := ⟨_, Row.new _ _ _, by simp [madeCells], fun j hj => absurd hj (by omega)⟩
      clear S3 G3 G4 hK ab
      go_upto_block 4 with (first
        | (go_at_call 20; refine hpe.mono ?_; rintro e w2 ⟨rfl, rfl⟩))
      generalize w2.alloc (.cells (madeCells #[.bool false] m) 4) = we at S4 G5 G6 A0 ⊢
      generalize w2.heap.size = K at A0 HKo HKb HNP ⊢
      clear hmk
      go_cut [] from 53 to 60 (fun wr => Dw w wr G d L 160 ∧ Grid wr P 8 8 (fun j => d.seen j) ∧ Grid wr (P + 1) 8 8 (fun j => d.sure.block j) ∧ Alls wr K m m all)
      case first =>
        go_wp2_with fail
        go_loopw [53] (fun c wr => ∃ (k : Nat), c = .int .i64 k ∧ k ≤ m ∧ Dw w wr G d L 160 ∧ Grid wr P 8 8 (fun j => d.seen j) ∧ Grid wr (P + 1) 8 8 (fun j => d.sure.block j) ∧ Alls wr K m k all) (fun c _ => m - (intOf c).toNat)
        case atStart => exact ⟨0, rfl, by omega, S4, G5, G6, A0⟩
        case round =>
          clear S4 G5 G6 A0
          obtain ⟨k, rfl, hk, S, G1, G2, A⟩ := hrel
          by_cases hkm : k < m
          · have hkm' : (k : Int) < (m : Int) := by omega
            obtain ⟨v, hv1, hv2⟩ := A.cell k hkm
            go_wp2
            go_roundw
            case rel =>
              have O : Off (· = K) wr (wr.setCell ⟨K, k, none⟩ (.bool all)) := Off.of_setCell _ _ _ rfl
              exact ⟨k + 1, by go_num, by omega, S.cell K k _ HKo.out HKb.out, G1.off O (fun q => HNP.out.1 q.symm), G2.off O (fun q => HNP.out.2 q.symm), A.put hkm⟩
            case measure => simp [intOf]; omega
          · have hkm' : ¬ (k : Int) < (m : Int) := by omega
            obtain rfl : k = m := by omega
            go_wp2
            go_meet
            exact ⟨S, G1, G2, A⟩
      case rest =>
        obtain ⟨S5, G7, G8, A1⟩ := hcut
        clear S4 G5 G6 A0
        have hcr := crash_any S5.at_ (.slice (some ⟨K, 0, none⟩) m m) (List.replicate m all) A1.cel (fun a n c e => by cases e; exact HKo.out)
        go_upto_block 6 with (first
          | (go_at_call 28; refine hcr.mono ?_; rintro e w2 ⟨rfl, CR⟩))
        obtain ⟨L2, S6, K6⟩ := S5.step CR
        obtain ⟨G9, f9⟩ := K6 _ _ _ _ G7 HPo.out
        obtain ⟨G10, f10⟩ := K6 _ _ _ _ G8 HPo'.out
        have F1 := show Hid _ from f9
        have F2 := show Hid _ from f10
        obtain ⟨e, HE⟩ : ∃ e, Hid (d.crash (List.replicate m all) = e) := ⟨_, rfl⟩
        rw [HE.out] at S6
        have E1 : Hid (∀ b : Nat, e.seen b = if all then d.seen b else d.sure.block b) := fun b => by rw [← HE.out, ← HM.out]; exact crash_seen d all b
        have E2 : Hid (∀ k b : Int, 0 ≤ k → 0 ≤ b ∧ b < d.n → read (e.tick k) b = (e.seen b, 0, e.tick (k + 1))) := fun k b hk hb => by rw [← HE.out]; exact crash_read d _ k b hk hb
        have S7 : Dw w w2 G (e.tick 0) L2 164 := by
          have : e.tick 0 = e := by rw [← HE.out]; rfl
          rw [this]; exact S6.grow (by omega) (by omega)
        have hdn : ∀ k, (e.tick k).down = false := fun k => by rw [← HE.out]; rfl
        clear K6 CR S5 S6 G7 G8 hcr A1 f9 f10 HPo HPo' HKo HKb HNP HPb
        go_cut [] from 64 to 96 (fun wr => Dw w wr G (e.tick 8) L2 164)
        case first =>
          go_wp2_with fail
          go_loopw [12] (fun c wr => ∃ (k : Nat), c = .int .i64 k ∧ k ≤ 8 ∧ Dw w wr G (e.tick k) L2 164 ∧ Grid wr P 8 8 (fun j => d.seen j) ∧ Grid wr (P + 1) 8 8 (fun j => d.sure.block j)) (fun c _ => 8 - (intOf c).toNat)
          case atStart => exact ⟨0, rfl, by omega, S7, G9, G10⟩
          case round =>
            clear S7 G9 G10
            obtain ⟨k, rfl, hk, D, G1, G2⟩ := hrel
            by_cases hk8 : k < 8
            · have hk8' : (k : Int) < 8 := by omega
              have hb : 0 ≤ (k : Int) ∧ (k : Int) < d.n := ⟨by omega, by rw [hn8]; omega⟩
              have hl1 := HL1.out k hk8
              have hl2 := HL2.out k hk8
              cases all
              · skip
                have hX : e.seen k = (d.sure.block k) := by have := E1.out k; simpa using this
                have hlx : (e.seen k).length = 256 := by rw [hX]; exact hl2
                have he1 : Hid (∀ w, (Op.equalIn 10000 35 (.agg (bs (e.seen k))) (.agg (bs (d.sure.block k)))).run Try.prog w = .ok true w) := fun w => by rw [hX, equal35 _ _ hl2 hl2 w]; simp
                have HX := show Hid _ from hX
                clear hX
                have hrd := read_any D.at_ (by show (k : Int) < _; omega) k
                rw [E2.out k k (by omega) hb] at hrd
                simp only at hrd
                go_upto_region 25 with (first
                  | (go_at_call 30; refine hrd.mono ?_; rintro e w7 ⟨rfl, D7, O7⟩
                     have y0 : Row (w7.alloc (.cells (bs (zs 256)) 35)) w7.heap.size (bs (zs 256)) 35 := Row.new _ _ _)
                  | (have hh := y0; clear hh; refine store_row rfl 35 (.tmp 13) (.tmp 72) rfl w7.heap.size (e.seen k) rfl rfl 35 _ y0 256 size35 (by rw [bs_size, zs_length]) hlx ?_))
                have y1 : Row ((w7.alloc (.cells (bs (zs 256)) 35)).setRow w7.heap.size (bs (e.seen k))) w7.heap.size (bs (e.seen k)) 35 := y0.set _
                have b7 : Below w7.heap.size w7 ((w7.alloc (.cells (bs (zs 256)) 35)).setRow w7.heap.size (bs (e.seen k))) := below_setRow ((Below.refl _ _).alloc (Nat.le_refl _) _) (Nat.le_refl _) _
                have D8 : Dw w w7 G (e.tick (k + 1)) L2 164 := ⟨D7, D.below.trans (O7.below D.below.size D.foot), D.foot⟩
                have D9 := D8.down b7
                have G5 := (G1.off O7 F1.out).below b7
                have G6 := (G2.off O7 F2.out).below b7
                clear D7 D8 y0 b7 O7 D G1 G2 hrd
                generalize (w7.alloc (.cells (bs (zs 256)) 35)).setRow w7.heap.size (bs (e.seen k)) = w8 at y1 D9 G5 G6 ⊢
                generalize w7.heap.size = Y at y1 ⊢
                refine wp_region_held_drew (S := fun w' => Dw w w' G (e.tick (k + 1)) L2 164 ∧ Grid w' P 8 8 (fun j => d.seen j) ∧ Grid w' (P + 1) 8 8 (fun j => d.sure.block j) ∧ Row w' Y (bs (e.seen k)) 35) (by kernel_rfl) ⟨D9.down (Below.refl _ _).drew, G5.drew, G6.drew, y1⟩ fun hS => ?_
                clear D9 G5 G6 y1
                refine wpAnyH_take (i := 0) (v := .int .i64 0) rfl (by kernel_rfl) (by kernel_rfl) (by kernel_rfl) (fun _ _ _ h => h) (Or.inl ⟨by rfl, fun w _ => by rfl⟩) hS ?_
                try simp only [Act.put, List.getElem_toArray, List.getElem_cons_zero, List.getElem_cons_succ, List.setIfInBounds_toArray, List.set_cons_zero, List.set_cons_succ]
                refine wpAnyH_take (i := 1) (v := .bool false) rfl (by kernel_rfl) (by kernel_rfl) (by kernel_rfl) (fun _ _ _ h => h) (Or.inl ⟨by rfl, fun w _ => by go_simp⟩) hS ?_
                try simp only [Act.put, List.getElem_toArray, List.getElem_cons_zero, List.getElem_cons_succ, List.setIfInBounds_toArray, List.set_cons_zero, List.set_cons_succ]
                refine wpAnyH_take (i := 2) (v := .bool false) rfl (by kernel_rfl) (by kernel_rfl) (by kernel_rfl) (fun _ _ _ h => h) (Or.inl ⟨by rfl, fun w _ => by rfl⟩) hS ?_
                try simp only [Act.put, List.getElem_toArray, List.getElem_cons_zero, List.getElem_cons_succ, List.setIfInBounds_toArray, List.set_cons_zero, List.set_cons_succ]
                refine wpAnyH_take (i := 3) (v := .bool false) rfl (by kernel_rfl) (by kernel_rfl) (by kernel_rfl) (fun _ _ _ h => h) (Or.inl ⟨by rfl, fun w _ => by rfl⟩) hS ?_
                try simp only [Act.put, List.getElem_toArray, List.getElem_cons_zero, List.getElem_cons_succ, List.setIfInBounds_toArray, List.set_cons_zero, List.set_cons_succ]
                refine wpAnyH_take (i := 4) (v := .bool false) rfl (by kernel_rfl) (by kernel_rfl) (by kernel_rfl) (fun _ _ _ h => h) (Or.inl ⟨by rfl, fun w _ => by rfl⟩) hS ?_
                try simp only [Act.put, List.getElem_toArray, List.getElem_cons_zero, List.getElem_cons_succ, List.setIfInBounds_toArray, List.set_cons_zero, List.set_cons_succ]
                refine wpAnyH_take (i := 5) (v := undef) rfl (by kernel_rfl) (by kernel_rfl) (by kernel_rfl) (fun _ _ _ h => h) (Or.inr ⟨by rfl, rfl⟩) hS ?_
                try simp only [Act.put, List.getElem_toArray, List.getElem_cons_zero, List.getElem_cons_succ, List.setIfInBounds_toArray, List.set_cons_zero, List.set_cons_succ]
                refine wpAnyH_take (i := 6) (v := undef) rfl (by kernel_rfl) (by kernel_rfl) (by kernel_rfl) (fun _ _ _ h => h) (Or.inr ⟨by rfl, rfl⟩) hS ?_
                try simp only [Act.put, List.getElem_toArray, List.getElem_cons_zero, List.getElem_cons_succ, List.setIfInBounds_toArray, List.set_cons_zero, List.set_cons_succ]
                refine wpAnyH_take (i := 7) (v := undef) rfl (by kernel_rfl) (by kernel_rfl) (by kernel_rfl) (fun _ _ _ h => h) (Or.inr ⟨by rfl, rfl⟩) hS ?_
                try simp only [Act.put, List.getElem_toArray, List.getElem_cons_zero, List.getElem_cons_succ, List.setIfInBounds_toArray, List.set_cons_zero, List.set_cons_succ]
                refine wpAnyH_take (i := 8) (v := undef) rfl (by kernel_rfl) (by kernel_rfl) (by kernel_rfl) (fun _ _ _ h => h) (Or.inr ⟨by rfl, rfl⟩) hS ?_
                try simp only [Act.put, List.getElem_toArray, List.getElem_cons_zero, List.getElem_cons_succ, List.setIfInBounds_toArray, List.set_cons_zero, List.set_cons_succ]
                refine wpAnyH_take (i := 9) (v := undef) rfl (by kernel_rfl) (by kernel_rfl) (by kernel_rfl) (fun _ _ _ h => h) (Or.inr ⟨by rfl, rfl⟩) hS ?_
                try simp only [Act.put, List.getElem_toArray, List.getElem_cons_zero, List.getElem_cons_succ, List.setIfInBounds_toArray, List.set_cons_zero, List.set_cons_succ]
                refine wpAnyH_take (i := 10) (v := .bool false) rfl (by kernel_rfl) (by kernel_rfl) (by kernel_rfl) (fun _ _ _ h => h) (Or.inl ⟨by rfl, fun w _ => by go_simp⟩) hS ?_
                try simp only [Act.put, List.getElem_toArray, List.getElem_cons_zero, List.getElem_cons_succ, List.setIfInBounds_toArray, List.set_cons_zero, List.set_cons_succ]
                refine wpAnyH_take (i := 11) (v := .bool false) rfl (by kernel_rfl) (by kernel_rfl) (by kernel_rfl) (fun _ _ _ h => h) (Or.inl ⟨by rfl, fun w _ => by go_simp⟩) hS ?_
                try simp only [Act.put, List.getElem_toArray, List.getElem_cons_zero, List.getElem_cons_succ, List.setIfInBounds_toArray, List.set_cons_zero, List.set_cons_succ]
                refine wpAnyH_take (i := 12) (v := .bool false) rfl (by kernel_rfl) (by kernel_rfl) (by kernel_rfl) (fun _ _ _ h => h) (Or.inl ⟨by rfl, fun w _ => by rfl⟩) hS ?_
                try simp only [Act.put, List.getElem_toArray, List.getElem_cons_zero, List.getElem_cons_succ, List.setIfInBounds_toArray, List.set_cons_zero, List.set_cons_succ]
                refine wpAnyH_take (i := 13) (v := .bool false) rfl (by kernel_rfl) (by kernel_rfl) (by kernel_rfl) (fun _ _ _ h => h) (Or.inl ⟨by rfl, fun w _ => by rfl⟩) hS ?_
                try simp only [Act.put, List.getElem_toArray, List.getElem_cons_zero, List.getElem_cons_succ, List.setIfInBounds_toArray, List.set_cons_zero, List.set_cons_succ]
                refine wpAnyH_take (i := 14) (v := .bool true) rfl (by kernel_rfl) (by kernel_rfl) (by kernel_rfl) (fun _ _ _ h => h) (Or.inl ⟨by rfl, fun w _ => by go_simp⟩) hS ?_
                try simp only [Act.put, List.getElem_toArray, List.getElem_cons_zero, List.getElem_cons_succ, List.setIfInBounds_toArray, List.set_cons_zero, List.set_cons_succ]
                refine wpAnyH_take (i := 15) (v := .bool true) rfl (by kernel_rfl) (by kernel_rfl) (by kernel_rfl) (fun _ _ _ h => h) (Or.inl ⟨by rfl, fun w _ => by rfl⟩) hS ?_
                try simp only [Act.put, List.getElem_toArray, List.getElem_cons_zero, List.getElem_cons_succ, List.setIfInBounds_toArray, List.set_cons_zero, List.set_cons_succ]
                refine wpAnyH_take (i := 16) (v := .agg (bs (e.seen k))) rfl (by kernel_rfl) (by kernel_rfl) (by kernel_rfl) (fun _ _ _ h => h) (yields_row (by rfl) 35 (.tmp 13) rfl Y rfl 35 (bs (e.seen k)) (fun w h => h.2.2.2) 256 5 Try.underlying35 size35 (by rw [bs_size, hlx])) hS ?_
                try simp only [Act.put, List.getElem_toArray, List.getElem_cons_zero, List.getElem_cons_succ, List.setIfInBounds_toArray, List.set_cons_zero, List.set_cons_succ]
                refine wpAnyH_take (i := 17) (v := .int .i64 k) rfl (by kernel_rfl) (by kernel_rfl) (by kernel_rfl) (fun _ _ _ h => h) (Or.inl ⟨by rfl, fun w _ => by rfl⟩) hS ?_
                try simp only [Act.put, List.getElem_toArray, List.getElem_cons_zero, List.getElem_cons_succ, List.setIfInBounds_toArray, List.set_cons_zero, List.set_cons_succ]
                refine wpAnyH_take (i := 18) (v := .pointer (some ⟨P + 1, k * 256, none⟩)) rfl (by kernel_rfl) (by kernel_rfl) (by kernel_rfl) (fun _ _ _ h => h) (Or.inl ⟨by rfl, fun w _ => by go_simp⟩) hS ?_
                try simp only [Act.put, List.getElem_toArray, List.getElem_cons_zero, List.getElem_cons_succ, List.setIfInBounds_toArray, List.set_cons_zero, List.set_cons_succ]
                refine wpAnyH_take (i := 19) (v := .agg (bs (d.sure.block k))) rfl (by kernel_rfl) (by kernel_rfl) (by kernel_rfl) (fun _ _ _ h => h) (yields_mid (by rfl) 35 (.tmp 92) rfl (P + 1) (k * 256) rfl (d.sure.block k) (fun w h => h.2.2.1.get k hk8) Try.underlying35 rfl (by rw [size35, hl2])) hS ?_
                try simp only [Act.put, List.getElem_toArray, List.getElem_cons_zero, List.getElem_cons_succ, List.setIfInBounds_toArray, List.set_cons_zero, List.set_cons_succ]
                refine wpAnyH_take (i := 20) (v := .bool false) rfl (by kernel_rfl) (by kernel_rfl) (by kernel_rfl) (fun _ _ _ h => h) (yields_neq (by rfl) 35 35 (.tmp 90) (.tmp 93) rfl (bs (e.seen k)) (bs (d.sure.block k)) rfl rfl Try.eqGuardType35 true he1.out) hS ?_
                try simp only [Act.put, List.getElem_toArray, List.getElem_cons_zero, List.getElem_cons_succ, List.setIfInBounds_toArray, List.set_cons_zero, List.set_cons_succ]
                refine wpAnyH_take (i := 21) (v := .bool false) rfl (by kernel_rfl) (by kernel_rfl) (by kernel_rfl) (fun _ _ _ h => h) (Or.inl ⟨by rfl, fun w _ => by go_simp⟩) hS ?_
                try simp only [Act.put, List.getElem_toArray, List.getElem_cons_zero, List.getElem_cons_succ, List.setIfInBounds_toArray, List.set_cons_zero, List.set_cons_succ]
                refine wpAnyH_take (i := 22) (v := .bool false) rfl (by kernel_rfl) (by kernel_rfl) (by kernel_rfl) (fun _ _ _ h => h) (Or.inl ⟨by rfl, fun w _ => by go_simp⟩) hS ?_
                try simp only [Act.put, List.getElem_toArray, List.getElem_cons_zero, List.getElem_cons_succ, List.setIfInBounds_toArray, List.set_cons_zero, List.set_cons_succ]
                refine wpAnyH_done (by kernel_rfl) ?_ _
                go_wp2
                go_roundw
                case rel => exact ⟨k + 1, by go_num, by omega, hS.1, hS.2.1, hS.2.2.1⟩
                case measure => simp [intOf]; omega
              · skip
                have hX : e.seen k = (d.seen k) := by have := E1.out k; simpa using this
                have hlx : (e.seen k).length = 256 := by rw [hX]; exact hl1
                have he1 : Hid (∀ w, (Op.equalIn 10000 35 (.agg (bs (e.seen k))) (.agg (bs (d.seen k)))).run Try.prog w = .ok true w) := fun w => by rw [hX, equal35 _ _ hl1 hl1 w]; simp
                have HX := show Hid _ from hX
                clear hX
                have hrd := read_any D.at_ (by show (k : Int) < _; omega) k
                rw [E2.out k k (by omega) hb] at hrd
                simp only at hrd
                go_upto_region 25 with (first
                  | (go_at_call 30; refine hrd.mono ?_; rintro e w7 ⟨rfl, D7, O7⟩
                     have y0 : Row (w7.alloc (.cells (bs (zs 256)) 35)) w7.heap.size (bs (zs 256)) 35 := Row.new _ _ _)
                  | (have hh := y0; clear hh; refine store_row rfl 35 (.tmp 13) (.tmp 72) rfl w7.heap.size (e.seen k) rfl rfl 35 _ y0 256 size35 (by rw [bs_size, zs_length]) hlx ?_))
                have y1 : Row ((w7.alloc (.cells (bs (zs 256)) 35)).setRow w7.heap.size (bs (e.seen k))) w7.heap.size (bs (e.seen k)) 35 := y0.set _
                have b7 : Below w7.heap.size w7 ((w7.alloc (.cells (bs (zs 256)) 35)).setRow w7.heap.size (bs (e.seen k))) := below_setRow ((Below.refl _ _).alloc (Nat.le_refl _) _) (Nat.le_refl _) _
                have D8 : Dw w w7 G (e.tick (k + 1)) L2 164 := ⟨D7, D.below.trans (O7.below D.below.size D.foot), D.foot⟩
                have D9 := D8.down b7
                have G5 := (G1.off O7 F1.out).below b7
                have G6 := (G2.off O7 F2.out).below b7
                clear D7 D8 y0 b7 O7 D G1 G2 hrd
                generalize (w7.alloc (.cells (bs (zs 256)) 35)).setRow w7.heap.size (bs (e.seen k)) = w8 at y1 D9 G5 G6 ⊢
                generalize w7.heap.size = Y at y1 ⊢
                refine wp_region_held_drew (S := fun w' => Dw w w' G (e.tick (k + 1)) L2 164 ∧ Grid w' P 8 8 (fun j => d.seen j) ∧ Grid w' (P + 1) 8 8 (fun j => d.sure.block j) ∧ Row w' Y (bs (e.seen k)) 35) (by kernel_rfl) ⟨D9.down (Below.refl _ _).drew, G5.drew, G6.drew, y1⟩ fun hS => ?_
                clear D9 G5 G6 y1
                refine wpAnyH_take (i := 0) (v := .int .i64 0) rfl (by kernel_rfl) (by kernel_rfl) (by kernel_rfl) (fun _ _ _ h => h) (Or.inl ⟨by rfl, fun w _ => by rfl⟩) hS ?_
                try simp only [Act.put, List.getElem_toArray, List.getElem_cons_zero, List.getElem_cons_succ, List.setIfInBounds_toArray, List.set_cons_zero, List.set_cons_succ]
                refine wpAnyH_take (i := 1) (v := .bool false) rfl (by kernel_rfl) (by kernel_rfl) (by kernel_rfl) (fun _ _ _ h => h) (Or.inl ⟨by rfl, fun w _ => by go_simp⟩) hS ?_
                try simp only [Act.put, List.getElem_toArray, List.getElem_cons_zero, List.getElem_cons_succ, List.setIfInBounds_toArray, List.set_cons_zero, List.set_cons_succ]
                refine wpAnyH_take (i := 2) (v := .bool false) rfl (by kernel_rfl) (by kernel_rfl) (by kernel_rfl) (fun _ _ _ h => h) (Or.inl ⟨by rfl, fun w _ => by rfl⟩) hS ?_
                try simp only [Act.put, List.getElem_toArray, List.getElem_cons_zero, List.getElem_cons_succ, List.setIfInBounds_toArray, List.set_cons_zero, List.set_cons_succ]
                refine wpAnyH_take (i := 3) (v := .bool true) rfl (by kernel_rfl) (by kernel_rfl) (by kernel_rfl) (fun _ _ _ h => h) (Or.inl ⟨by rfl, fun w _ => by rfl⟩) hS ?_
                try simp only [Act.put, List.getElem_toArray, List.getElem_cons_zero, List.getElem_cons_succ, List.setIfInBounds_toArray, List.set_cons_zero, List.set_cons_succ]
                refine wpAnyH_take (i := 4) (v := .bool true) rfl (by kernel_rfl) (by kernel_rfl) (by kernel_rfl) (fun _ _ _ h => h) (Or.inl ⟨by rfl, fun w _ => by rfl⟩) hS ?_
                try simp only [Act.put, List.getElem_toArray, List.getElem_cons_zero, List.getElem_cons_succ, List.setIfInBounds_toArray, List.set_cons_zero, List.set_cons_succ]
                refine wpAnyH_take (i := 5) (v := .agg (bs (e.seen k))) rfl (by kernel_rfl) (by kernel_rfl) (by kernel_rfl) (fun _ _ _ h => h) (yields_row (by rfl) 35 (.tmp 13) rfl Y rfl 35 (bs (e.seen k)) (fun w h => h.2.2.2) 256 5 Try.underlying35 size35 (by rw [bs_size, hlx])) hS ?_
                try simp only [Act.put, List.getElem_toArray, List.getElem_cons_zero, List.getElem_cons_succ, List.setIfInBounds_toArray, List.set_cons_zero, List.set_cons_succ]
                refine wpAnyH_take (i := 6) (v := .int .i64 k) rfl (by kernel_rfl) (by kernel_rfl) (by kernel_rfl) (fun _ _ _ h => h) (Or.inl ⟨by rfl, fun w _ => by rfl⟩) hS ?_
                try simp only [Act.put, List.getElem_toArray, List.getElem_cons_zero, List.getElem_cons_succ, List.setIfInBounds_toArray, List.set_cons_zero, List.set_cons_succ]
                refine wpAnyH_take (i := 7) (v := .pointer (some ⟨P, k * 256, none⟩)) rfl (by kernel_rfl) (by kernel_rfl) (by kernel_rfl) (fun _ _ _ h => h) (Or.inl ⟨by rfl, fun w _ => by go_simp⟩) hS ?_
                try simp only [Act.put, List.getElem_toArray, List.getElem_cons_zero, List.getElem_cons_succ, List.setIfInBounds_toArray, List.set_cons_zero, List.set_cons_succ]
                refine wpAnyH_take (i := 8) (v := .agg (bs (d.seen k))) rfl (by kernel_rfl) (by kernel_rfl) (by kernel_rfl) (fun _ _ _ h => h) (yields_mid (by rfl) 35 (.tmp 81) rfl P (k * 256) rfl (d.seen k) (fun w h => h.2.1.get k hk8) Try.underlying35 rfl (by rw [size35, hl1])) hS ?_
                try simp only [Act.put, List.getElem_toArray, List.getElem_cons_zero, List.getElem_cons_succ, List.setIfInBounds_toArray, List.set_cons_zero, List.set_cons_succ]
                refine wpAnyH_take (i := 9) (v := .bool false) rfl (by kernel_rfl) (by kernel_rfl) (by kernel_rfl) (fun _ _ _ h => h) (yields_neq (by rfl) 35 35 (.tmp 79) (.tmp 82) rfl (bs (e.seen k)) (bs (d.seen k)) rfl rfl Try.eqGuardType35 true he1.out) hS ?_
                try simp only [Act.put, List.getElem_toArray, List.getElem_cons_zero, List.getElem_cons_succ, List.setIfInBounds_toArray, List.set_cons_zero, List.set_cons_succ]
                refine wpAnyH_take (i := 10) (v := .bool false) rfl (by kernel_rfl) (by kernel_rfl) (by kernel_rfl) (fun _ _ _ h => h) (Or.inl ⟨by rfl, fun w _ => by go_simp⟩) hS ?_
                try simp only [Act.put, List.getElem_toArray, List.getElem_cons_zero, List.getElem_cons_succ, List.setIfInBounds_toArray, List.set_cons_zero, List.set_cons_succ]
                refine wpAnyH_take (i := 11) (v := .bool false) rfl (by kernel_rfl) (by kernel_rfl) (by kernel_rfl) (fun _ _ _ h => h) (Or.inl ⟨by rfl, fun w _ => by go_simp⟩) hS ?_
                try simp only [Act.put, List.getElem_toArray, List.getElem_cons_zero, List.getElem_cons_succ, List.setIfInBounds_toArray, List.set_cons_zero, List.set_cons_succ]
                refine wpAnyH_take (i := 12) (v := .bool false) rfl (by kernel_rfl) (by kernel_rfl) (by kernel_rfl) (fun _ _ _ h => h) (Or.inl ⟨by rfl, fun w _ => by rfl⟩) hS ?_
                try simp only [Act.put, List.getElem_toArray, List.getElem_cons_zero, List.getElem_cons_succ, List.setIfInBounds_toArray, List.set_cons_zero, List.set_cons_succ]
                refine wpAnyH_take (i := 13) (v := .bool true) rfl (by kernel_rfl) (by kernel_rfl) (by kernel_rfl) (fun _ _ _ h => h) (Or.inl ⟨by rfl, fun w _ => by rfl⟩) hS ?_
                try simp only [Act.put, List.getElem_toArray, List.getElem_cons_zero, List.getElem_cons_succ, List.setIfInBounds_toArray, List.set_cons_zero, List.set_cons_succ]
                refine wpAnyH_take (i := 14) (v := .bool false) rfl (by kernel_rfl) (by kernel_rfl) (by kernel_rfl) (fun _ _ _ h => h) (Or.inl ⟨by rfl, fun w _ => by go_simp⟩) hS ?_
                try simp only [Act.put, List.getElem_toArray, List.getElem_cons_zero, List.getElem_cons_succ, List.setIfInBounds_toArray, List.set_cons_zero, List.set_cons_succ]
                refine wpAnyH_take (i := 15) (v := .bool false) rfl (by kernel_rfl) (by kernel_rfl) (by kernel_rfl) (fun _ _ _ h => h) (Or.inl ⟨by rfl, fun w _ => by rfl⟩) hS ?_
                try simp only [Act.put, List.getElem_toArray, List.getElem_cons_zero, List.getElem_cons_succ, List.setIfInBounds_toArray, List.set_cons_zero, List.set_cons_succ]
                refine wpAnyH_take (i := 16) (v := undef) rfl (by kernel_rfl) (by kernel_rfl) (by kernel_rfl) (fun _ _ _ h => h) (Or.inr ⟨by rfl, rfl⟩) hS ?_
                try simp only [Act.put, List.getElem_toArray, List.getElem_cons_zero, List.getElem_cons_succ, List.setIfInBounds_toArray, List.set_cons_zero, List.set_cons_succ]
                refine wpAnyH_take (i := 17) (v := undef) rfl (by kernel_rfl) (by kernel_rfl) (by kernel_rfl) (fun _ _ _ h => h) (Or.inr ⟨by rfl, rfl⟩) hS ?_
                try simp only [Act.put, List.getElem_toArray, List.getElem_cons_zero, List.getElem_cons_succ, List.setIfInBounds_toArray, List.set_cons_zero, List.set_cons_succ]
                refine wpAnyH_take (i := 18) (v := undef) rfl (by kernel_rfl) (by kernel_rfl) (by kernel_rfl) (fun _ _ _ h => h) (Or.inr ⟨by rfl, rfl⟩) hS ?_
                try simp only [Act.put, List.getElem_toArray, List.getElem_cons_zero, List.getElem_cons_succ, List.setIfInBounds_toArray, List.set_cons_zero, List.set_cons_succ]
                refine wpAnyH_take (i := 19) (v := undef) rfl (by kernel_rfl) (by kernel_rfl) (by kernel_rfl) (fun _ _ _ h => h) (Or.inr ⟨by rfl, rfl⟩) hS ?_
                try simp only [Act.put, List.getElem_toArray, List.getElem_cons_zero, List.getElem_cons_succ, List.setIfInBounds_toArray, List.set_cons_zero, List.set_cons_succ]
                refine wpAnyH_take (i := 20) (v := undef) rfl (by kernel_rfl) (by kernel_rfl) (by kernel_rfl) (fun _ _ _ h => h) (Or.inr ⟨by rfl, rfl⟩) hS ?_
                try simp only [Act.put, List.getElem_toArray, List.getElem_cons_zero, List.getElem_cons_succ, List.setIfInBounds_toArray, List.set_cons_zero, List.set_cons_succ]
                refine wpAnyH_take (i := 21) (v := .bool false) rfl (by kernel_rfl) (by kernel_rfl) (by kernel_rfl) (fun _ _ _ h => h) (Or.inl ⟨by rfl, fun w _ => by go_simp⟩) hS ?_
                try simp only [Act.put, List.getElem_toArray, List.getElem_cons_zero, List.getElem_cons_succ, List.setIfInBounds_toArray, List.set_cons_zero, List.set_cons_succ]
                refine wpAnyH_take (i := 22) (v := .bool false) rfl (by kernel_rfl) (by kernel_rfl) (by kernel_rfl) (fun _ _ _ h => h) (Or.inl ⟨by rfl, fun w _ => by go_simp⟩) hS ?_
                try simp only [Act.put, List.getElem_toArray, List.getElem_cons_zero, List.getElem_cons_succ, List.setIfInBounds_toArray, List.set_cons_zero, List.set_cons_succ]
                refine wpAnyH_done (by kernel_rfl) ?_ _
                go_wp2
                go_roundw
                case rel => exact ⟨k + 1, by go_num, by omega, hS.1, hS.2.1, hS.2.2.1⟩
                case measure => simp [intOf]; omega
            · have hk8' : ¬ (k : Int) < 8 := by omega
              obtain rfl : k = 8 := by omega
              go_wp2
              go_meet
              exact D
        case rest =>
          have S8 := hcut
          clear S7 G9 G10
          have hdw := down_any S8.at_
          rw [hdn] at hdw
          go_wp2_with (first
            | (go_at_call 18; refine hdw.mono ?_; rintro e w2 ⟨rfl, rfl⟩)
            | (go_at_call 10; refine (awake_any _).mono ?_; rintro e w5 ⟨rfl, b5⟩))
          go_ret
          exact ⟨rfl, (S8.down b5).below⟩

set_option maxRecDepth 100000 in
theorem lifted (os : Os) (started : os.Started) (H : Type) (enc : TypeId × Value → H) :
    ReturnsInHanded {} Try.checked os 5 .any (Rows.diskKeptSpec.pre6 enc Try.prog Try.f5 Rows.diskKeptRow.domain false) (Rows.diskKeptSpec.post enc Try.prog Try.f5 false true false false) := by
  refine returnsInHanded_of_change_sized (C := Try.checked) own started (by kernel_rfl) Try.func5
    (ChangeSpec.witness6 (enc := enc) (C := Try.checked) false ⟨#[], #[.slice none 0 0, .bool false], []⟩ 8 (by kernel_rfl) (by kernel_rfl) (by kernel_rfl) (by kernel_rfl)) ?_
  intro W base args ds gs before hval0 hW hcnd hsz0 _
  have hval : ∀ (j : Nat) t v, Try.f5.params[j]? = some t → args[j]? = some v → Value.okWide Try.prog W .any base t v := hval0
  have hW' := hW
  obtain ⟨p, q, hA0, hV, rfl, hfz, hnd⟩ := hW
  have hA : DataW.TrodAll enc Try.prog W 0 (fun _ => true) true Try.f5.params.toList args.toList ds p := hA0
  have hsz : (DataW.weightsEach Try.prog (Try.f5.params.toList ++ []) (ds ++ gs)).all (· ≤ reachBytes) = true := hsz0
  rw [Try.params5] at hA hval hsz
  obtain ⟨v0, vs0, d0, ds0, p0, q0, hargs, rfl, rfl, h0, r0⟩ := trodAll_cons hA
  obtain ⟨v1, vs1, d1, ds1, p1, q1, rfl, rfl, rfl, h1, r1⟩ := trodAll_cons r0
  obtain ⟨rfl, rfl, rfl⟩ := trodAll_nil r1
  obtain rfl : args = #[v0, v1] := by cases args; simp_all
  obtain ⟨rfl, rfl⟩ := trodVars_none hV
  simp only [List.append_nil] at hsz
  have hlt : ∀ x ∈ (p0 ++ (p1 ++ [])), x.block < W.heap.size := fun x hx => hW'.lt x (by simpa using hx)
  have hw0 : (d0.weights Try.prog 22).all (· ≤ reachBytes) = true := List.all_eq_true.2 fun m hm => List.all_eq_true.1 hsz m (by simp [DataW.weightsEach, hm])
  have hw1 : (d1.weights Try.prog 4).all (· ≤ reachBytes) = true := List.all_eq_true.2 fun m hm => List.all_eq_true.1 hsz m (by simp [DataW.weightsEach, hm])
  have k0 := h0
  have k1 := h1
  obtain ⟨a0, w0⟩ := open_calls (hval 0 22 v0 rfl rfl) h0 hw0
  obtain ⟨a1, rfl, rfl, rfl⟩ := open_bool Try.underlying4 (hval 1 4 v1 rfl rfl) h1
  clear hA0 hval0
  simp only [List.append_nil] at hW'
  refine (walk W v0 a0 a1 w0).mono fun e W' ⟨he, hg⟩ => ?_
  subst he
  exact ⟨_, rfl, ⟨_, _, _, [], (p0 ++ ([] ++ [])), [], hW', (trodAll_cons_mk (shut_bool Try.underlying4 _) trodAll_mk0), (trodAll_cons_mk (Below.trod laid (by kernel_rfl) (of_decide_eq_true (by kernel_rfl)) k0 hg (fun x hx => hlt x (by simp [hx]))) (trodAll_cons_mk (Below.trod laid (by kernel_rfl) (of_decide_eq_true (by kernel_rfl)) k1 hg (fun x hx => (nomatch hx))) trodAll_mk0)), rfl,
    hg.frame _, fun h => by cases h⟩⟩

theorem over : Rows.diskKeptRow.holds Try.pinned (OpenSpec.ofChange Rows.diskKeptSpec) :=
  OpenClaim.holds_of_wide 5 Try.f5 rfl rfl rfl rfl rfl rfl rfl ⟨rfl, rfl, rfl, rfl, rfl⟩ rfl rfl rfl rfl rfl (by kernel_rfl) Try.func5 (by kernel_rfl)
    (of_decide_eq_true (by kernel_rfl)) (by unfold Func.isWrapper; first | (rw [if_pos (by decide +kernel)]; kernel_rfl) | (rw [if_neg (by decide +kernel)]; exact ⟨rfl, rfl⟩))
    (fun os started H enc _ => lifted os started H enc)

/-- The statement. -/
theorem proved : Rows.DiskKeptSaid :=
  over
#print axioms proved
end Go.Proofs.Ytkgmhliocfbdfaa.diskKept
