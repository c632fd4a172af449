/-
  Proved: for every list of calls of a disk and every call the Go function varvelaw05.DiskFails returns true and leaves its arguments as they were; no condition.
-/
import Derived.Test.YtkgmhliocfbdfaaWld
namespace Go.Proofs.Ytkgmhliocfbdfaa.diskFails
open Go.ChangeShapes Go.WideShapes Go.ChangeAt Go.RowKit
open Go.Deep
set_option linter.unusedVariables false
set_option linter.unusedSimpArgs false

theorem own : ownKnob Try.prog.godebug = none := by kernel_rfl

set_option maxHeartbeats 4000000 in
set_option maxRecDepth 20000 in
theorem walk (w : World) (v : Value) (cs : List Call) (c : Call) (hs : Script w v cs) (ok : c.Ok w) :
    Calls Try.prog 7 #[v, .agg c.cells.toArray] w fun e w' => e = .returned (.bool true) ∧ Below w.heap.size w w' := by
  obtain ⟨kd, b, y, fs, ks, zl, bl⟩ := c
  obtain ⟨oa, cap, rfl, hlen, hcs⟩ := hs.open
  have HCS : Hid _ := hcs
  clear hcs hs
  obtain ⟨n, HN⟩ : ∃ n, Hid (cs.length = n) := ⟨_, rfl⟩
  rw [HN.out] at HCS hlen ⊢
  show Calls Try.prog 7 #[.slice oa n cap, .agg #[.int .i64 kd, .int .i64 b, .int .u8 y, fs, ks]] w _
  have r0 : Row (w.alloc (.cells #[.int .i64 kd, .int .i64 b, .int .u8 y, fs, ks] 33)) w.heap.size #[.int .i64 kd, .int .i64 b, .int .u8 y, fs, ks] 33 := Row.new _ _ _
  have ab : Below w.heap.size w (w.alloc (.cells #[.int .i64 kd, .int .i64 b, .int .u8 y, fs, ks] 33)) := (Below.refl _ _).alloc (Nat.le_refl _) _
  have hnew := new_some 8 (by omega) (by omega) (w.alloc (.cells #[.int .i64 kd, .int .i64 b, .int .u8 y, fs, ks] 33))
  have hft := new_foot (w.alloc (.cells #[.int .i64 kd, .int .i64 b, .int .u8 y, fs, ks] 33)).heap.size
  have HNF : Hid (∀ j, foot ((w.alloc (.cells #[.int .i64 kd, .int .i64 b, .int .u8 y, fs, ks] 33)).heap.size + 2) (Loc.new (w.alloc (.cells #[.int .i64 kd, .int .i64 b, .int .u8 y, fs, ks] 33)).heap.size) j → w.heap.size + 1 ≤ j) := fun j hj => by have := hft j hj; simpa using this
  clear hft
  generalize Loc.new (w.alloc (.cells #[.int .i64 kd, .int .i64 b, .int .u8 y, fs, ks] 33)).heap.size = L0 at hnew HNF
  generalize (w.alloc (.cells #[.int .i64 kd, .int .i64 b, .int .u8 y, fs, ks] 33)).heap.size + 2 = G at hnew HNF
  have hok := ok.keep ab
  have HOK : Hid _ := ok
  clear ok hok
  go_enter Try.func7, Try.ntmps7
  go_upto_block 0 with (go_at_call 9; refine hnew.mono ?_; rintro e w1 ⟨rfl, D1, B1⟩)
  have S1 : St w w1 G (Dsk.new 8) L0 0 w.heap.size #[.int .i64 kd, .int .i64 b, .int .u8 y, fs, ks] := ⟨D1, ab.trans (B1.mono (by simp)), fun j hj => by have := HNF.out j hj; omega, fun q => by have := HNF.out _ q; omega, r0.below B1 r0.lt⟩
  clear D1 B1 r0 ab HNF hnew
  have Z33 := zero33
  go_cut [] from 17 to 38 (fun wr => ∃ (d : Dsk) (L : Loc), Hid (Calm d 30) ∧ St w wr G d L 200 w.heap.size #[.int .i64 kd, .int .i64 b, .int .u8 y, fs, ks])
  case first =>
    go_wp2_with fail
    go_loopw [6] (fun c wr => ∃ (k : Nat) (d : Dsk) (L : Loc), c = .int .i64 k ∧ k ≤ 30 ∧ Hid (Calm d k) ∧ St w wr G d L (4 * k) w.heap.size #[.int .i64 kd, .int .i64 b, .int .u8 y, fs, ks]) (fun c _ => 30 - (intOf c).toNat)
    case atStart => exact ⟨0, _, _, rfl, by omega, ⟨rfl, rfl, rfl, by simp [Dsk.new], by simp [Dsk.new]⟩, S1⟩
    case round =>
      clear S1
      obtain ⟨k, d, L, rfl, hk, HC, S⟩ := hrel
      by_cases hkl : k < n
      · have hkl' : (k : Int) < (n : Int) := by omega
        by_cases hk30 : k < 30
        · have hk30' : (k : Int) < 30 := by omega
          obtain ⟨a, ⟨kd', b', y', fs', ks', zl', bl'⟩, rfl, ok0, hcell⟩ := HCS.out k hkl
          have ok1 := ok0.keep S.below
          have hcw : ∀ j u, [Value.int .i64 kd', .int .i64 b', .int .u8 y', fs', ks'][j]? = some u → wr.cell? ((a.add (k * 5)).add j) = some u := fun j u hj => cell_keep (hcell j u hj) S.below
          have hc0 := hcw 0 _ rfl
          rw [add_zero] at hc0
          have HCW := show Hid _ from hcw
          clear hcw hcell ok0
          by_cases q3 : kd' < 3
          · have hdo := do_disk S.at_ (by have := HC.out.hi; omega) (by omega) ⟨kd', b', y', fs', ks', zl', bl'⟩ ok1
            have hcm := act_calm HC.out ⟨kd', b', y', fs', ks', zl', bl'⟩ q3
            generalize act d ⟨kd', b', y', fs', ks', zl', bl'⟩ = rr at hdo hcm
            obtain ⟨X, E, r⟩ := rr
            simp only at hdo hcm
            have HCM := show Hid _ from hcm
            clear hcm
            go_upto_region 8 with fail
            have hcw := HCW.out
            have tl : Hid (1 = 1) := rfl
            go_wp2_with (first
              | (have hh := tl; clear hh tl; refine wpList_load_any rfl 33 (.tmp 36) rfl (a.add (k * 5)) rfl [.int .i64 kd', .int .i64 b', .int .u8 y', fs', ks'] _ hcw Try.underlying33 rfl size33 ?_)
              | (go_at_call 11; refine hdo.mono ?_; rintro e w7 ⟨rfl, CR⟩))
            go_roundw
            case rel =>
              obtain ⟨L', S'⟩ := S.crashed CR
              exact ⟨k + 1, r, L', by go_num, by omega, HCM.out, S'.grow (by omega) (by omega)⟩
            case measure => simp [intOf]; omega
          · go_wp2
            go_roundw
            case rel => exact ⟨k + 1, d, L, by go_num, by omega, HC.out.up, S.grow (by omega) (by omega)⟩
            case measure => simp [intOf]; omega
        · have hk30' : ¬ (k : Int) < 30 := by omega
          go_wp2
          go_meet
          obtain rfl : k = 30 := by omega
          exact ⟨d, L, HC, S.grow (by omega) (by omega)⟩
      · have hkl' : ¬ (k : Int) < (n : Int) := by omega
        go_wp2
        go_meet
        exact ⟨d, L, ⟨HC.out.size, HC.out.fuse, HC.out.on, HC.out.lo, by have := HC.out.hi; omega⟩, S.grow (by omega) (by omega)⟩
  case rest =>
    obtain ⟨d, L, HC, S⟩ := hcut
    clear S1 HCS
    have c0 := row_at S.row 0 (.int .i64 kd) rfl
    have c1 := row_at S.row 1 (.int .i64 b) rfl
    by_cases k1 : kd < 0
    · go_wp2_with (go_at_call 10; refine (awake_any _).mono ?_; rintro e w2 ⟨rfl, b2⟩)
      go_ret
      exact ⟨rfl, (S.down b2).below⟩
    by_cases k2 : kd > 2
    · go_wp2_with (go_at_call 10; refine (awake_any _).mono ?_; rintro e w2 ⟨rfl, b2⟩)
      go_ret
      exact ⟨rfl, (S.down b2).below⟩
    by_cases k3 : b < 0
    · go_wp2_with (go_at_call 10; refine (awake_any _).mono ?_; rintro e w2 ⟨rfl, b2⟩)
      go_ret
      exact ⟨rfl, (S.down b2).below⟩
    by_cases k4 : b > 7
    · go_wp2_with (go_at_call 10; refine (awake_any _).mono ?_; rintro e w2 ⟨rfl, b2⟩)
      go_ret
      exact ⟨rfl, (S.down b2).below⟩
    have hz55 := zero55
    have hz35 := zero35
    go_upto_block 2 with fail
    have x1 : Row ((wc.alloc (.cells (bs (zs 2048)) 55)).alloc (.cells (bs (zs 2048)) 55)) wc.heap.size (bs (zs 2048)) 55 := (Row.new _ _ _).alloc _
    have x2 : Row ((wc.alloc (.cells (bs (zs 2048)) 55)).alloc (.cells (bs (zs 2048)) 55)) (wc.heap.size + 1) (bs (zs 2048)) 55 := by have := Row.new (wc.alloc (.cells (bs (zs 2048)) 55)) (bs (zs 2048)) 55; simpa using this
    have S2 := S.down (((Below.refl wc.heap.size wc).alloc (Nat.le_refl _) (.cells (bs (zs 2048)) 55)).alloc (by simp) (.cells (bs (zs 2048)) 55))
    have G1 : Grid _ wc.heap.size 8 0 (fun j => d.seen j) := Grid.start x1 (by rw [bs_size, zs_length]) _
    have G2 : Grid _ (wc.heap.size + 1) 8 0 (fun j => d.sure.block j) := Grid.start x2 (by rw [bs_size, zs_length]) _
    have hP : ∀ j, foot G L j → j < wc.heap.size := fun j hj => S.at_.lt hj
    have hsz := S.row.lt
    clear S x1 x2 c0 c1
    generalize (wc.alloc (.cells (bs (zs 2048)) 55)).alloc (.cells (bs (zs 2048)) 55) = wd at S2 G1 G2 ⊢
    have hn8 : d.n = 8 := HC.out.size
    have HPo : Hid (¬ foot G L wc.heap.size) := fun q => by have := hP _ q; omega
    have HPo' : Hid (¬ foot G L (wc.heap.size + 1)) := fun q => by have := hP _ q; omega
    have HPb : Hid (w.heap.size < wc.heap.size) := hsz
    have HL1 : Hid (∀ j : Nat, j < 8 → (d.seen j).length = 256) := fun j hj => (Dsk.seen_length S2.at_ j ⟨by omega, by rw [hn8]; omega⟩).1
    have HL2 : Hid (∀ j : Nat, j < 8 → (d.sure.block j).length = 256) := fun j hj => sure_length S2.at_ j ⟨by omega, by rw [hn8]; omega⟩
    have HK : Hid (0 ≤ kd ∧ kd ≤ 2 ∧ 0 ≤ b ∧ b ≤ 7) := ⟨by omega, by omega, by omega, by omega⟩
    clear hP hsz k1 k2 k3 k4
    generalize wc.heap.size = P at G1 G2 HPo HPo' HPb ⊢
    go_cut [] from 58 to 71 (fun wr => St w wr G d L 200 w.heap.size #[.int .i64 kd, .int .i64 b, .int .u8 y, fs, ks] ∧ Grid wr P 8 8 (fun j => d.seen j) ∧ Grid wr (P + 1) 8 8 (fun j => d.sure.block j))
    case first =>
      go_wp2_with fail
      go_loopw [9] (fun c wr => ∃ (k : Nat), c = .int .i64 k ∧ k ≤ 8 ∧ St w wr G d L 200 w.heap.size #[.int .i64 kd, .int .i64 b, .int .u8 y, fs, ks] ∧ Grid wr P 8 k (fun j => d.seen j) ∧ Grid wr (P + 1) 8 k (fun j => d.sure.block j)) (fun c _ => 8 - (intOf c).toNat)
      case atStart => exact ⟨0, rfl, by omega, S2, G1, G2⟩
      case round =>
        clear S2 G1 G2
        obtain ⟨k, rfl, hk, S, G1, G2⟩ := hrel
        by_cases hk8 : k < 8
        · have hk8' : (k : Int) < 8 := by omega
          have hb : 0 ≤ (k : Int) ∧ (k : Int) < d.n := ⟨by omega, by rw [hn8]; omega⟩
          have hse := seen_in S.at_ k hb
          have hsu := fun (wx : World) (hb2 : Below wr.heap.size wr wx) (wy : World) (hD : DAt wy G d L 200) => sure_in hD k hb
          have hl1 := (Dsk.seen_length S.at_ k hb).1
          have hl2 := sure_length S.at_ k hb
          have HSU := show Hid _ from hsu
          clear hsu
          have t1 : Hid (1 = 1) := rfl
          have t2 : Hid (1 = 1) := rfl
          go_wp2_with (first
            | (go_at_call 22; refine hse.mono ?_; rintro e w2 ⟨rfl, b2⟩
               have G3 := G1.below b2
               have S3 := S.down b2
               have G4 := G2.below b2)
            | (have hh := t1; clear hh t1; refine store_grid rfl 35 (.tmp 66) (.tmp 65) rfl P k (d.seen k) _ rfl (add_at _ _) rfl (G3.there k hk8) size35 hl1 ?_
               have S5 := S3.cells P (256 * k) ((d.seen k).map (Value.int .u8)) HPo.out HPb.out (by have := HPb.out; omega)
               have G5 := G3.put hk8 HL1.out
               have G6 := G4.off (off_setCells P ((d.seen k).map (Value.int .u8)) (256 * k) _) (by omega)
               clear S3 G3 G4
               generalize World.setCells w2 P (256 * k) ((d.seen k).map (Value.int .u8)) = w3 at S5 G5 G6 ⊢))
          have hsu := sure_in S5.at_ k hb
          go_wp2_with (first
            | (go_at_call 24; refine hsu.mono ?_; rintro e w4 ⟨rfl, b4⟩
               have G7 := G5.below b4
               have S7 := S5.down b4
               have G8 := G6.below b4)
            | (have hh := t2; clear hh t2; refine store_grid rfl 35 (.tmp 71) (.tmp 70) rfl (P + 1) k (d.sure.block k) _ rfl (add_at _ _) rfl (G8.there k hk8) size35 hl2 ?_
               have S9 := S7.cells (P + 1) (256 * k) ((d.sure.block k).map (Value.int .u8)) HPo'.out (by have := HPb.out; omega) (by have := HPb.out; omega)
               have G9 := G8.put hk8 HL2.out
               have G10 := G7.off (off_setCells (P + 1) ((d.sure.block k).map (Value.int .u8)) (256 * k) _) (by omega)
               clear S7 G7 G8
               generalize World.setCells w4 (P + 1) (256 * k) ((d.sure.block k).map (Value.int .u8)) = w5 at S9 G9 G10 ⊢))
          go_roundw
          case rel => exact ⟨k + 1, by go_num, by omega, S9, G10, G9⟩
          case measure => simp [intOf]; omega
        · have hk8' : ¬ (k : Int) < 8 := by omega
          obtain rfl : k = 8 := by omega
          go_wp2
          go_meet
          exact ⟨S, G1, G2⟩
    case rest =>
      obtain ⟨S3, G3, G4⟩ := hcut
      clear S2 G1 G2
      have S4 := S3.down ((Below.refl wc.heap.size wc).alloc (Nat.le_refl _) (.cells #[.int .i64 1] 3))
      have G5 := G3.below ((Below.refl wc.heap.size wc).alloc (Nat.le_refl _) (.cells #[.int .i64 1] 3))
      have G6 := G4.below ((Below.refl wc.heap.size wc).alloc (Nat.le_refl _) (.cells #[.int .i64 1] 3))
      have hce : Cel (wc.alloc (.cells #[.int .i64 1] 3)) (.slice (some ⟨wc.heap.size, 0, none⟩) 1 1) ([1].map (Value.int .i64)) := by
        refine Or.inr ⟨⟨wc.heap.size, 0, none⟩, 1, rfl, fun j u hj => ?_⟩
        match j with
        | 0 => rw [add_zero, cell_of_row _ _ _ _ _ _ (Row.new wc #[.int .i64 1] 3)]; exact hj
        | j + 1 => simp at hj
      have hpl := plan_any S4.at_ _ [1] hce (fun a n c e q => by cases e; have := S3.at_.row.lt; simp at q; omega) (fun z hz => by simp at hz; subst hz; exact wf_of (by omega) (by omega)) (by simp) 0 (wf_of (by omega) (by omega))
      have hpe := pending_any S3.at_
      clear S3 G3 G4 hce
      go_upto_region 19 with (first
        | (go_at_call 20; refine hpe.mono ?_; rintro e w2 ⟨rfl, rfl⟩)
        | (go_at_call 31; refine hpl.mono ?_; rintro e w3 ⟨rfl, PL⟩))
      obtain ⟨L1, S5, K5⟩ := S4.step PL.crashed
      obtain ⟨G7, f7⟩ := K5 _ _ _ _ G5 HPo.out
      obtain ⟨G8, f8⟩ := K5 _ _ _ _ G6 HPo'.out
      clear K5 PL S4 G5 G6 hpl hpe
      have hac := act_fail HC.out ⟨kd, b, y, fs, ks, zl, bl⟩ HK.out.1 HK.out.2.1 HK.out.2.2
      have hdo := do_disk S5.at_ (by simp [Dsk.plan]) (by omega) ⟨kd, b, y, fs, ks, zl, bl⟩ (HOK.out.keep S5.below)
      rw [hac] at hdo
      clear hac
      simp only at hdo
      obtain ⟨e, HE⟩ : ∃ e, Hid (({ d.plan [1] 0 with ops := 1 } : Dsk) = e) := ⟨_, rfl⟩
      rw [HE.out] at hdo
      have rg := range_op S5.row
      go_upto_block 4 with (first
        | (refine wpList_load_mid rfl 33 (.tmp 3) rfl w.heap.size 0 rfl [.int .i64 kd, .int .i64 b, .int .u8 y, fs, ks] _ rg Try.underlying33 rfl size33 ?_)
        | (go_at_call 11; refine hdo.mono ?_; rintro e w7 ⟨rfl, CR⟩
           have y0 : Row (w7.alloc (.cells (bs (zs 256)) 35)) w7.heap.size (bs (zs 256)) 35 := Row.new _ _ _)
        | (have hh := y0; clear hh; refine store_row rfl 35 (.tmp 11) (.tmp 81) rfl w7.heap.size (zs 256) rfl rfl 35 _ y0 256 size35 (by rw [bs_size, zs_length]) (zs_length 256) ?_))
      obtain ⟨L2, S6, K6⟩ := S5.step CR
      obtain ⟨G9, f9⟩ := K6 _ _ _ _ G7 f7
      obtain ⟨G10, f10⟩ := K6 _ _ _ _ G8 f8
      clear K6 CR S5 G7 G8 hdo rg
      have y1 : Row ((w7.alloc (.cells (bs (zs 256)) 35)).setRow w7.heap.size (bs (zs 256))) w7.heap.size (bs (zs 256)) 35 := y0.set _
      have b7 : Below w7.heap.size w7 ((w7.alloc (.cells (bs (zs 256)) 35)).setRow w7.heap.size (bs (zs 256))) := below_setRow ((Below.refl _ _).alloc (Nat.le_refl _) _) (Nat.le_refl _) _
      have S7 := S6.down b7
      have G11 := G9.below b7
      have G12 := G10.below b7
      have e1 : e.n = 8 := by rw [← HE.out]; exact hn8
      have e2 : ∀ j, e.seen j = d.seen j := fun j => by rw [← HE.out]; rfl
      have e3 : ∀ j, e.sure.block j = d.sure.block j := fun j => by rw [← HE.out]; rfl
      have E2 := show Hid _ from e2
      have E3 := show Hid _ from e3
      have e4 : e.ops = 1 := by rw [← HE.out]
      have e5 : e.down = false := by rw [← HE.out]; exact HC.out.on
      have e6 : e.pend = d.pend := by rw [← HE.out]; rfl
      clear y0 S6 G9 G10 b7 e2 e3 HPo HPo' f7 f8 f9 f10 HOK
      generalize (w7.alloc (.cells (bs (zs 256)) 35)).setRow w7.heap.size (bs (zs 256)) = wd at y1 S7 G11 G12 ⊢
      generalize w7.heap.size = Y at y1 ⊢
      go_cut [] from 83 to 102 (fun wr => St w wr G e L2 204 w.heap.size #[.int .i64 kd, .int .i64 b, .int .u8 y, fs, ks] ∧ Row wr Y (bs (zs 256)) 35)
      case first =>
        go_wp2_with fail
        go_loopw [13] (fun c wr => ∃ (k : Nat), c = .int .i64 k ∧ k ≤ 8 ∧ St w wr G e L2 204 w.heap.size #[.int .i64 kd, .int .i64 b, .int .u8 y, fs, ks] ∧ Grid wr P 8 8 (fun j => d.seen j) ∧ Grid wr (P + 1) 8 8 (fun j => d.sure.block j) ∧ Row wr Y (bs (zs 256)) 35) (fun c _ => 8 - (intOf c).toNat)
        case atStart => exact ⟨0, rfl, by omega, S7, G11, G12, y1⟩
        case round =>
          clear S7 G11 G12 y1
          obtain ⟨k, rfl, hk, S, G1, G2, y1⟩ := hrel
          by_cases hk8 : k < 8
          · have hk8' : (k : Int) < 8 := by omega
            have hb : 0 ≤ (k : Int) ∧ (k : Int) < e.n := ⟨by omega, by rw [e1]; omega⟩
            have hse := E2.out k
            have hsu := E3.out k
            have hl1 := HL1.out k hk8
            have hl2 := HL2.out k hk8
            have he1 : Hid (∀ w, (Op.equalIn 10000 35 (.agg (bs (d.seen k))) (.agg (bs (d.seen k)))).run Try.prog w = .ok true w) := fun w => by rw [equal35 _ _ hl1 hl1 w]; simp
            have he2 : Hid (∀ w, (Op.equalIn 10000 35 (.agg (bs (d.sure.block k))) (.agg (bs (d.sure.block k)))).run Try.prog w = .ok true w) := fun w => by rw [equal35 _ _ hl2 hl2 w]; simp
            go_upto_region 23 with fail
            refine wp_region_held_drew (S := fun w' => St w w' G e L2 204 w.heap.size #[.int .i64 kd, .int .i64 b, .int .u8 y, fs, ks] ∧ Grid w' P 8 8 (fun j => d.seen j) ∧ Grid w' (P + 1) 8 8 (fun j => d.sure.block j) ∧ Row w' Y (bs (zs 256)) 35) (by kernel_rfl) ⟨S.down (Below.refl _ _).drew, G1.drew, G2.drew, y1⟩ fun hS => ?_
            clear S G1 G2 y1
            refine wpAnyH_take (i := 0) (v := .pointer (some ⟨G, 0, none⟩)) rfl (by kernel_rfl) (by kernel_rfl) (by kernel_rfl) (fun _ _ _ h => h) (Or.inl ⟨by rfl, fun w _ => by rfl⟩) hS ?_
            try simp only [Act.put, List.getElem_toArray, List.getElem_cons_zero, List.getElem_cons_succ, List.setIfInBounds_toArray, List.set_cons_zero, List.set_cons_succ]
            refine wpAnyH_take (i := 1) (v := .int .i64 k) rfl (by kernel_rfl) (by kernel_rfl) (by kernel_rfl) (fun _ _ _ h => h) (Or.inl ⟨by rfl, fun w _ => by rfl⟩) hS ?_
            try simp only [Act.put, List.getElem_toArray, List.getElem_cons_zero, List.getElem_cons_succ, List.setIfInBounds_toArray, List.set_cons_zero, List.set_cons_succ]
            refine wpAnyH_take (i := 3) (v := .int .i64 k) rfl (by kernel_rfl) (by kernel_rfl) (by kernel_rfl) (fun _ _ _ h => h) (Or.inl ⟨by rfl, fun w _ => by rfl⟩) hS ?_
            try simp only [Act.put, List.getElem_toArray, List.getElem_cons_zero, List.getElem_cons_succ, List.setIfInBounds_toArray, List.set_cons_zero, List.set_cons_succ]
            refine wpAnyH_take (i := 4) (v := .pointer (some ⟨P, k * 256, none⟩)) rfl (by kernel_rfl) (by kernel_rfl) (by kernel_rfl) (fun _ _ _ h => h) (Or.inl ⟨by rfl, fun w _ => by go_simp⟩) hS ?_
            try simp only [Act.put, List.getElem_toArray, List.getElem_cons_zero, List.getElem_cons_succ, List.setIfInBounds_toArray, List.set_cons_zero, List.set_cons_succ]
            refine wpAnyH_take (i := 5) (v := .agg (bs (d.seen k))) rfl (by kernel_rfl) (by kernel_rfl) (by kernel_rfl) (fun _ _ _ h => h) (yields_mid (by rfl) 35 (.tmp 91) rfl P (k * 256) rfl (d.seen k) (fun w h => h.2.1.get k hk8) Try.underlying35 rfl (by rw [size35, hl1])) hS ?_
            try simp only [Act.put, List.getElem_toArray, List.getElem_cons_zero, List.getElem_cons_succ, List.setIfInBounds_toArray, List.set_cons_zero, List.set_cons_succ]
            refine wpAnyH_ready (rs := [2]) (by kernel_rfl) (by simp) ?_
            refine AllReadyH.cons rfl (fun K hK => ?_) AllReadyH.nil
            go_simp
            go_at_call 22
            refine (seen_to hS.1.at_ k hb (d.seen k) hse).mono ?_
            rintro e wc ⟨rfl, hcb⟩
            refine hK.out _ _ (⟨hS.1.down hcb, hS.2.1.below hcb, hS.2.2.1.below hcb, hS.2.2.2.below hcb hS.2.2.2.lt⟩) fun hS => ?_
            try simp only [Act.put, List.getElem_toArray, List.getElem_cons_zero, List.getElem_cons_succ, List.setIfInBounds_toArray, List.set_cons_zero, List.set_cons_succ]
            refine wpAnyH_take (i := 6) (v := .bool false) rfl (by kernel_rfl) (by kernel_rfl) (by kernel_rfl) (fun _ _ _ h => h) (yields_neq (by rfl) 35 35 (.tmp 89) (.tmp 92) rfl (bs (d.seen k)) (bs (d.seen k)) rfl rfl Try.eqGuardType35 true he1.out) hS ?_
            try simp only [Act.put, List.getElem_toArray, List.getElem_cons_zero, List.getElem_cons_succ, List.setIfInBounds_toArray, List.set_cons_zero, List.set_cons_succ]
            refine wpAnyH_take (i := 7) (v := .bool false) rfl (by kernel_rfl) (by kernel_rfl) (by kernel_rfl) (fun _ _ _ h => h) (Or.inl ⟨by rfl, fun w _ => by rfl⟩) hS ?_
            try simp only [Act.put, List.getElem_toArray, List.getElem_cons_zero, List.getElem_cons_succ, List.setIfInBounds_toArray, List.set_cons_zero, List.set_cons_succ]
            refine wpAnyH_take (i := 8) (v := .pointer (some ⟨G, 0, none⟩)) rfl (by kernel_rfl) (by kernel_rfl) (by kernel_rfl) (fun _ _ _ h => h) (Or.inl ⟨by rfl, fun w _ => by rfl⟩) hS ?_
            try simp only [Act.put, List.getElem_toArray, List.getElem_cons_zero, List.getElem_cons_succ, List.setIfInBounds_toArray, List.set_cons_zero, List.set_cons_succ]
            refine wpAnyH_take (i := 9) (v := .int .i64 k) rfl (by kernel_rfl) (by kernel_rfl) (by kernel_rfl) (fun _ _ _ h => h) (Or.inl ⟨by rfl, fun w _ => by rfl⟩) hS ?_
            try simp only [Act.put, List.getElem_toArray, List.getElem_cons_zero, List.getElem_cons_succ, List.setIfInBounds_toArray, List.set_cons_zero, List.set_cons_succ]
            refine wpAnyH_take (i := 11) (v := .int .i64 k) rfl (by kernel_rfl) (by kernel_rfl) (by kernel_rfl) (fun _ _ _ h => h) (Or.inl ⟨by rfl, fun w _ => by rfl⟩) hS ?_
            try simp only [Act.put, List.getElem_toArray, List.getElem_cons_zero, List.getElem_cons_succ, List.setIfInBounds_toArray, List.set_cons_zero, List.set_cons_succ]
            refine wpAnyH_take (i := 12) (v := .pointer (some ⟨P + 1, k * 256, none⟩)) rfl (by kernel_rfl) (by kernel_rfl) (by kernel_rfl) (fun _ _ _ h => h) (Or.inl ⟨by rfl, fun w _ => by go_simp⟩) hS ?_
            try simp only [Act.put, List.getElem_toArray, List.getElem_cons_zero, List.getElem_cons_succ, List.setIfInBounds_toArray, List.set_cons_zero, List.set_cons_succ]
            refine wpAnyH_take (i := 13) (v := .agg (bs (d.sure.block k))) rfl (by kernel_rfl) (by kernel_rfl) (by kernel_rfl) (fun _ _ _ h => h) (yields_mid (by rfl) 35 (.tmp 99) rfl (P + 1) (k * 256) rfl (d.sure.block k) (fun w h => h.2.2.1.get k hk8) Try.underlying35 rfl (by rw [size35, hl2])) hS ?_
            try simp only [Act.put, List.getElem_toArray, List.getElem_cons_zero, List.getElem_cons_succ, List.setIfInBounds_toArray, List.set_cons_zero, List.set_cons_succ]
            refine wpAnyH_ready (rs := [10]) (by kernel_rfl) (by simp) ?_
            refine AllReadyH.cons rfl (fun K hK => ?_) AllReadyH.nil
            go_simp
            go_at_call 24
            refine (sure_to hS.1.at_ k hb (d.sure.block k) hsu).mono ?_
            rintro e wc ⟨rfl, hcb⟩
            refine hK.out _ _ (⟨hS.1.down hcb, hS.2.1.below hcb, hS.2.2.1.below hcb, hS.2.2.2.below hcb hS.2.2.2.lt⟩) fun hS => ?_
            try simp only [Act.put, List.getElem_toArray, List.getElem_cons_zero, List.getElem_cons_succ, List.setIfInBounds_toArray, List.set_cons_zero, List.set_cons_succ]
            refine wpAnyH_take (i := 14) (v := .bool false) rfl (by kernel_rfl) (by kernel_rfl) (by kernel_rfl) (fun _ _ _ h => h) (yields_neq (by rfl) 35 35 (.tmp 97) (.tmp 100) rfl (bs (d.sure.block k)) (bs (d.sure.block k)) rfl rfl Try.eqGuardType35 true he2.out) hS ?_
            try simp only [Act.put, List.getElem_toArray, List.getElem_cons_zero, List.getElem_cons_succ, List.setIfInBounds_toArray, List.set_cons_zero, List.set_cons_succ]
            refine wpAnyH_take (i := 15) (v := .bool false) rfl (by kernel_rfl) (by kernel_rfl) (by kernel_rfl) (fun _ _ _ h => h) (Or.inl ⟨by rfl, fun w _ => by rfl⟩) hS ?_
            try simp only [Act.put, List.getElem_toArray, List.getElem_cons_zero, List.getElem_cons_succ, List.setIfInBounds_toArray, List.set_cons_zero, List.set_cons_succ]
            refine wpAnyH_done (by kernel_rfl) ?_ _
            go_wp2
            go_roundw
            case rel => exact ⟨k + 1, by go_num, by omega, hS.1, hS.2.1, hS.2.2.1, hS.2.2.2⟩
            case measure => simp [intOf]; omega
          · have hk8' : ¬ (k : Int) < 8 := by omega
            obtain rfl : k = 8 := by omega
            go_wp2
            go_meet
            exact ⟨S, y1⟩
      case rest =>
        obtain ⟨S8, y2⟩ := hcut
        clear S7 G11 G12 y1
        have hop := ops_any S8.at_
        have hpe := pending_any S8.at_
        have hdn := down_any S8.at_
        rw [e4] at hop
        rw [e5] at hdn
        rw [e6] at hpe
        have he : ∀ w, (Op.equalIn 10000 35 (.agg (bs (zs 256))) (.agg (bs (zs 256)))).run Try.prog w = .ok true w := fun w => by rw [equal35 _ _ (zs_length 256) (zs_length 256) w]; simp
        go_wp2_with (first
          | (refine load_row_g rfl 35 (.tmp 11) rfl Y rfl 35 (bs (zs 256)) y2 256 5 Try.underlying35 size35 (by rw [bs_size, zs_length]) ?_)
          | (refine build_none_g rfl 35 rfl (bs (zs 256)) built35 ?_)
          | (go_at_call 19; refine hop.mono ?_; rintro e w2 ⟨rfl, rfl⟩)
          | (go_at_call 20; refine hpe.mono ?_; rintro e w2 ⟨rfl, rfl⟩)
          | (go_at_call 18; refine hdn.mono ?_; rintro e w2 ⟨rfl, rfl⟩)
          | (go_at_call 10; refine (awake_any _).mono ?_; rintro e w5 ⟨rfl, b5⟩))
        go_ret
        exact ⟨rfl, (S8.down b5).below⟩

set_option maxRecDepth 100000 in
theorem lifted (os : Os) (started : os.Started) (H : Type) (enc : TypeId × Value → H) :
    ReturnsInHanded {} Try.checked os 7 .any (Rows.diskFailsSpec.pre6 enc Try.prog Try.f7 Rows.diskFailsRow.domain false) (Rows.diskFailsSpec.post enc Try.prog Try.f7 false true false false) := by
  refine returnsInHanded_of_change_sized (C := Try.checked) own started (by kernel_rfl) Try.func7
    (ChangeSpec.witness6 (enc := enc) (C := Try.checked) false ⟨#[], #[.slice none 0 0, .agg #[.int .i64 0, .int .i64 0, .int .u8 0, .slice none 0 0, .slice none 0 0]], []⟩ 8 (by kernel_rfl) (by kernel_rfl) (by kernel_rfl) (by kernel_rfl)) ?_
  intro W base args ds gs before hval0 hW hcnd hsz0 _
  have hval : ∀ (j : Nat) t v, Try.f7.params[j]? = some t → args[j]? = some v → Value.okWide Try.prog W .any base t v := hval0
  have hW' := hW
  obtain ⟨p, q, hA0, hV, rfl, hfz, hnd⟩ := hW
  have hA : DataW.TrodAll enc Try.prog W 0 (fun _ => true) true Try.f7.params.toList args.toList ds p := hA0
  have hsz : (DataW.weightsEach Try.prog (Try.f7.params.toList ++ []) (ds ++ gs)).all (· ≤ reachBytes) = true := hsz0
  rw [Try.params7] at hA hval hsz
  obtain ⟨v0, vs0, d0, ds0, p0, q0, hargs, rfl, rfl, h0, r0⟩ := trodAll_cons hA
  obtain ⟨v1, vs1, d1, ds1, p1, q1, rfl, rfl, rfl, h1, r1⟩ := trodAll_cons r0
  obtain ⟨rfl, rfl, rfl⟩ := trodAll_nil r1
  obtain rfl : args = #[v0, v1] := by cases args; simp_all
  obtain ⟨rfl, rfl⟩ := trodVars_none hV
  simp only [List.append_nil] at hsz
  have hlt : ∀ x ∈ (p0 ++ (p1 ++ [])), x.block < W.heap.size := fun x hx => hW'.lt x (by simpa using hx)
  have hw0 : (d0.weights Try.prog 22).all (· ≤ reachBytes) = true := List.all_eq_true.2 fun m hm => List.all_eq_true.1 hsz m (by simp [DataW.weightsEach, hm])
  have hw1 : (d1.weights Try.prog 33).all (· ≤ reachBytes) = true := List.all_eq_true.2 fun m hm => List.all_eq_true.1 hsz m (by simp [DataW.weightsEach, hm])
  have k0 := h0
  have k1 := h1
  obtain ⟨a0, w0⟩ := open_calls (hval 0 22 v0 rfl rfl) h0 hw0
  obtain ⟨a1, rfl, w1⟩ := open_callv (hval 1 33 v1 rfl rfl) h1 hw1
  clear hA0 hval0
  simp only [List.append_nil] at hW'
  refine (walk W v0 a0 a1 w0 w1).mono fun e W' ⟨he, hg⟩ => ?_
  subst he
  exact ⟨_, rfl, ⟨_, _, _, [], (p0 ++ (p1 ++ [])), [], hW', (trodAll_cons_mk (shut_bool Try.underlying4 _) trodAll_mk0), (trodAll_cons_mk (Below.trod laid (by kernel_rfl) (of_decide_eq_true (by kernel_rfl)) k0 hg (fun x hx => hlt x (by simp [hx]))) (trodAll_cons_mk (Below.trod laid (by kernel_rfl) (of_decide_eq_true (by kernel_rfl)) k1 hg (fun x hx => hlt x (by simp [hx]))) trodAll_mk0)), rfl,
    hg.frame _, fun h => by cases h⟩⟩

theorem over : Rows.diskFailsRow.holds Try.pinned (OpenSpec.ofChange Rows.diskFailsSpec) :=
  OpenClaim.holds_of_wide 7 Try.f7 rfl rfl rfl rfl rfl rfl rfl ⟨rfl, rfl, rfl, rfl, rfl⟩ rfl rfl rfl rfl rfl (by kernel_rfl) Try.func7 (by kernel_rfl)
    (of_decide_eq_true (by kernel_rfl)) (by unfold Func.isWrapper; first | (rw [if_pos (by decide +kernel)]; kernel_rfl) | (rw [if_neg (by decide +kernel)]; exact ⟨rfl, rfl⟩))
    (fun os started H enc _ => lifted os started H enc)

/-- The statement. -/
theorem proved : Rows.DiskFailsSaid :=
  over
#print axioms proved
end Go.Proofs.Ytkgmhliocfbdfaa.diskFails
