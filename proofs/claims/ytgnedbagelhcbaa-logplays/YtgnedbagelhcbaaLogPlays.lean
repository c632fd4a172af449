/-
  LogPlays: whatever is asked of a log, over a disk whose operations may fail, is answered as the document says. No conditions.
-/
import Derived.Test.YtgnedbagelhcbaaJn
import Derived.Test.YtgnedbagelhcbaaJg
namespace Go.Proofs.Ytgnedbagelhcbaa.logPlays
open Go.ChangeShapes Go.WideShapes Go.ChangeAt Go.RowKit
open Go.Deep
set_option linter.unusedVariables false
set_option linter.unusedSimpArgs false
theorem own : ownKnob Try.prog.godebug = none := by kernel_rfl
set_option maxRecDepth 20000
theorem size39 : (Try.prog.info? 39).map (·.size) = some 4 := by kernel_rfl
theorem zero39 (w : World) : (zeroValue 39).run Try.prog w = .ok (.agg #[.int .i64 0, .string { data := #[] }, .int .u64 0, .slice none 0 0]) w := (zero_of_info (P := Try.prog) (t := 39) (v := .agg #[.int .i64 0, .string { data := #[] }, .int .u64 0, .slice none 0 0]) (n := 4) (by kernel_rfl)).1 w
set_option maxHeartbeats 16000000 in
theorem walk (w : World) (z : Int) (sv : Value) (cs : List PCall) (tv : Value) (os : List St.O) (num fin : Int) (hz0 : (Lit.int .i64 z).wf = true) (hS : Script w sv cs) (hT : St.Olds w tv os ∧ ∀ s ∈ os, 0 ≤ s.off) (hn0 : (Lit.int .u32 num).wf = true) (hf0 : (Lit.int .u64 fin).wf = true) :
    Calls Try.prog 3 #[.int .i64 z, sv, tv, .int .u32 num, .int .u64 fin] w fun e w' => e = .returned (.bool true) ∧ Below w.heap.size w w' := by
  have hz := bounds_i64 hz0
  have hn := bounds_u32 hn0
  have hf := bounds_u64 hf0
  clear hz0 hn0 hf0
  have HA : Hid _ := awake_any
  have HND : Hid (∀ wx, Calls Try.prog 9 #[.int .i64 40] wx fun e w' => e = .returned (.pointer (some ⟨wx.heap.size + 2, 0, none⟩)) ∧ DAt w' (wx.heap.size + 2) (Dsk.new 40) (Loc.new wx.heap.size) 0 ∧ Below wx.heap.size wx w') := fun wx => new_some 40 (by decide) (by decide) wx
  obtain ⟨ot, ct, htv, _⟩ := hT.1.open
  obtain ⟨NT, HNT⟩ : ∃ NT, Hid (os.length = NT) := ⟨_, rfl⟩
  rw [HNT.out] at htv
  by_cases hbig : 100 < NT ∨ 4611686018427387904 < fin
  · by_cases hA1 : 100 < NT
    · have h1 : (100 : Int) < (NT : Int) := by omega
      clear hbig
      subst htv
      clear hS hT
      go_enter Try.func3, Try.ntmps3
      go_upto_region 2 with (go_at_call 9; refine Calls.mono (HND.out _) ?_; clear HND; rintro e w1 ⟨rfl, D1, B1⟩)
      have ab : Below w1.heap.size w1 (w1.alloc (.cells #[.int .i64 40, .slice none 0 0, .slice none 0 0, .slice none 0 0, .int .i64 0, .int .i64 0, .bool false] 32)) := (Below.refl _ _).alloc (Nat.le_refl _) _
      have B2 := B1.trans (ab.mono B1.size)
      clear D1 ab B1
      go_upto_region 3 with fail
      generalize w1.alloc (.cells #[.int .i64 40, .slice none 0 0, .slice none 0 0, .slice none 0 0, .int .i64 0, .int .i64 0, .bool false] 32) = w2 at B2 ⊢
      go_wp2_with (go_at_call 10; refine Calls.mono (HA.out _) ?_; clear HA; rintro ex wz ⟨rfl, hz9⟩)
      go_ret
      exact ⟨rfl, B2.trans (hz9.mono B2.size)⟩
    · have h1 : ¬ (100 : Int) < (NT : Int) := by omega
      have h2 : (4611686018427387904 : Int) < fin := by omega
      clear hbig
      subst htv
      clear hS hT
      go_enter Try.func3, Try.ntmps3
      go_upto_region 2 with (go_at_call 9; refine Calls.mono (HND.out _) ?_; clear HND; rintro e w1 ⟨rfl, D1, B1⟩)
      have ab : Below w1.heap.size w1 (w1.alloc (.cells #[.int .i64 40, .slice none 0 0, .slice none 0 0, .slice none 0 0, .int .i64 0, .int .i64 0, .bool false] 32)) := (Below.refl _ _).alloc (Nat.le_refl _) _
      have B2 := B1.trans (ab.mono B1.size)
      clear D1 ab B1
      go_upto_region 3 with fail
      generalize w1.alloc (.cells #[.int .i64 40, .slice none 0 0, .slice none 0 0, .slice none 0 0, .int .i64 0, .int .i64 0, .bool false] 32) = w2 at B2 ⊢
      go_wp2_with (go_at_call 10; refine Calls.mono (HA.out _) ?_; clear HA; rintro ex wz ⟨rfl, hz9⟩)
      go_ret
      exact ⟨rfl, B2.trans (hz9.mono B2.size)⟩
  have hb1 : ¬ (100 : Int) < (NT : Int) := by omega
  have hb2 : ¬ (4611686018427387904 : Int) < fin := by omega
  have hNT : NT ≤ 100 := by omega
  have hfin : fin ≤ 4611686018427387904 := by omega
  clear hbig
  have HT : Hid _ := hT
  clear hT
  subst htv
  go_enter Try.func3, Try.ntmps3
  go_upto_region 2 with (go_at_call 9; refine Calls.mono (HND.out _) ?_; clear HND; rintro e w1 ⟨rfl, D1, B1⟩)
  have rr : Row (w1.alloc (.cells #[.int .i64 40, .slice none 0 0, .slice none 0 0, .slice none 0 0, .int .i64 0, .int .i64 0, .bool false] 32)) w1.heap.size #[.int .i64 40, .slice none 0 0, .slice none 0 0, .slice none 0 0, .int .i64 0, .int .i64 0, .bool false] 32 := Row.new _ _ _
  have ab : Below w1.heap.size w1 (w1.alloc (.cells #[.int .i64 40, .slice none 0 0, .slice none 0 0, .slice none 0 0, .int .i64 0, .int .i64 0, .bool false] 32)) := (Below.refl _ _).alloc (Nat.le_refl _) _
  have B2 := B1.trans (ab.mono B1.size)
  have D2 := D1.below ab
  have hrg : ∀ j, foot (w.heap.size + 2) (Loc.new w.heap.size) j → w.heap.size ≤ j ∧ j < w1.heap.size := fun j q => ⟨foot_new q, D1.lt q⟩
  go_upto_region 3 with fail
  clear D1 ab
  have hwr : w.heap.size ≤ w1.heap.size := B1.size
  clear B1
  generalize w1.alloc (.cells #[.int .i64 40, .slice none 0 0, .slice none 0 0, .slice none 0 0, .int .i64 0, .int .i64 0, .bool false] 32) = w2 at rr B2 D2 ⊢
  obtain ⟨r, Hr⟩ : ∃ r, Hid (w1.heap.size = r) := ⟨_, rfl⟩
  rw [Hr.out] at rr hrg hwr ⊢
  obtain ⟨gd, Hgd⟩ : ∃ gd, Hid (w.heap.size + 2 = gd) := ⟨_, rfl⟩
  rw [Hgd.out] at D2 hrg ⊢
  go_upto_region 5 with fail
  have hTw : ∀ wx, Below w.heap.size w wx → St.Olds wx (.slice ot NT ct) os := fun wx hb => HT.out.1.keep hb
  have HCP : Hid (∀ ty, ∃ v' w', (Builtin.append_ #[23, 23] ty #[.slice (some ⟨w2.heap.size, 0, none⟩) 0 0, .slice ot NT ct]).run Try.prog (w2.alloc (.cells #[] 104)) = .ok v' w' ∧ (St.Own w' w2.heap.size v' os ∧ Below w2.heap.size w2 w')) := fun ty => St.run_copy w2 ty _ os (hTw w2 B2) (by rw [HNT.out]; omega)
  have HLN : Hid (∀ wx v, Below w2.heap.size w2 wx → St.Own wx w2.heap.size v os → Calls Try.prog 11 #[.pointer (some ⟨gd, 0, none⟩), .int .i64 3, .int .i64 z, .int .u32 2, v, .int .u32 num, .int .u64 fin] wx fun e w' => MadeS wx (some ⟨gd, 0, none⟩) 3 z 2 num fin os (okN 3 z 40 num fin os) e w') := fun wx v hb ho =>
    lnew_any (some ⟨gd, 0, none⟩) 3 z 2 num fin 40 v os wx ho.olds (by rw [HNT.out]; omega) hz (by decide) (fun wa hb2 => by
      have := size_any ((D2.below hb).below hb2)
      exact this)
  have HRN : Hid (∀ wx, Below w2.heap.size w2 wx → Calls Try.prog 12 #[.pointer (some ⟨r, 0, none⟩), .int .i64 3, .int .i64 z, .int .u32 2, .slice ot NT ct, .int .u32 num, .int .u64 fin] wx fun e w' => RMade wx r 3 z 2 num fin os (okN 3 z 40 num fin os) e w') := fun wx hb =>
    rnew_any r 3 z 2 num fin 40 _ os wx (hTw wx (B2.trans (hb.mono B2.size))) HT.out.2 (by rw [HNT.out]; omega) (by decide) hz (by decide) (row_at (rr.below hb rr.lt) 0 _ rfl)
  have HGO : Hid (∀ wx, Below w2.heap.size w2 wx → BD w wx gd r) := fun wx hb => ⟨_, _, _, _, _, _, _, _, D2.below hb, rdat_new (rr.below hb rr.lt), rel_new 40, B2.trans (hb.mono B2.size), rfl⟩
  cases hok : okN 3 z 40 num fin os with
  | false =>
    rw [hok] at HLN HRN
    clear hok hTw
    go_upto_region 9 with (first
      | (at_builtin; refine St.wpList_copy rfl (.tmp 44) (.tmp 45) 23 rfl _ _ rfl rfl (fun ty => HCP.out ty) ?_
         rintro v3 w3 ⟨own3, b3⟩)
      | (go_at_call 11; refine Calls.mono (HLN.out _ _ b3 own3) ?_; clear HLN; rintro e w4 ⟨b4, hm4, -⟩; obtain rfl := hm4 rfl)
      | (go_at_call 12; refine Calls.mono (HRN.out _ (b3.trans (b4.mono b3.size))) ?_; clear HRN; rintro e w5 ⟨hm5, -⟩; obtain ⟨he5, b5⟩ := hm5 rfl; obtain rfl := he5))
    have hBD : BD w w5 gd r := HGO.out w5 ((b3.trans (b4.mono b3.size)).trans (b5.mono (b3.trans (b4.mono b3.size)).size))
    clear HGO HCP own3 b3 b4 b5 rr D2 B2
    obtain ⟨so, sc, hsv, _⟩ := hS.form
    obtain ⟨NS, HNS⟩ : ∃ NS, Hid (cs.length = NS) := ⟨_, rfl⟩
    rw [HNS.out] at hsv
    subst hsv
    go_wp2
    go_loopw [15] (fun i wr => i = .int .i64 0 ∧ wr = w5) (fun _ _ => 0)
    case atStart => exact ⟨rfl, by first | rfl | trivial⟩
    case round =>
      obtain ⟨rfl, rfl⟩ := hrel
      by_cases hns : 0 < NS
      · have hns' : (0 : Int) < (NS : Int) := by omega
        go_upto_region 36 with fail
        obtain ⟨d, R, L, v1, v2, v3, M, N, hD, hR, hRel, hB, hdn⟩ := hBD
        go_wp2
        go_loopw [22] (fun i wq => ∃ (b : Nat), b ≤ 40 ∧ i = .int .i64 b ∧ Below wr.heap.size wr wq) (fun i _ => 40 - (intOf i).toNat)
        case atStart => exact ⟨0, by omega, rfl, Below.refl _ _⟩
        case round =>
          rename World => wq
          obtain ⟨b, hb, rfl, hq⟩ := hrel
          by_cases hb40 : b < 40
          · have hb' : (b : Int) < 40 := by omega
            have hbb : 0 ≤ (b : Int) ∧ (b : Int) < d.n := ⟨by omega, by rw [hdn]; omega⟩
            have hwb : IntKind.i64.wrap ((b : Int) + 1) = (b : Int) + 1 := by rw [IntKind.wrap_i64]; omega
            have hl1 := (Dsk.seen_length hD b hbb).1
            have hl2 : (d.sure.block b).length = 256 := by have h9 := kept_len hR.oks (b : Int); rw [hRel.kept] at h9; exact h9
            have HS1 : Hid (∀ wx, Below wr.heap.size wr wx → Calls Try.prog 29 #[.pointer (some ⟨gd, 0, none⟩), .int .i64 b] wx fun e w' => e = .returned (.agg (bs (d.seen b))) ∧ Below wx.heap.size wx w') := fun wx h => seen_in (hD.below h) b hbb
            have HS2 : Hid (∀ wx, Below wr.heap.size wr wx → Calls Try.prog 30 #[.pointer (some ⟨r, 0, none⟩), .int .i64 b] wx fun e w' => e = .returned (.agg (bs (d.seen b))) ∧ Below wx.heap.size wx w') := fun wx h => by rw [← hRel.seen]; exact rseen_any (hR.below h) b
            have HS3 : Hid (∀ wx, Below wr.heap.size wr wx → Calls Try.prog 31 #[.pointer (some ⟨gd, 0, none⟩), .int .i64 b] wx fun e w' => e = .returned (.agg (bs (d.sure.block b))) ∧ Below wx.heap.size wx w') := fun wx h => sure_in (hD.below h) b hbb
            have HS4 : Hid (∀ wx, Below wr.heap.size wr wx → Calls Try.prog 32 #[.pointer (some ⟨r, 0, none⟩), .int .i64 b] wx fun e w' => e = .returned (.agg (bs (d.sure.block b))) ∧ Below wx.heap.size wx w') := fun wx h => by rw [← hRel.kept]; exact rkept_any (hR.below h) b
            have he1 := equal56 (d.seen b) (d.seen b) hl1 hl1
            have he2 := equal56 (d.sure.block b) (d.sure.block b) hl2 hl2
            generalize d.seen b = X1 at HS1 HS2 he1
            generalize d.sure.block b = X2 at HS3 HS4 he2
            simp only [decide_true] at he1 he2
            clear hl1 hl2
            go_wp2_with (first
              | (go_at_call 29; refine Calls.mono (HS1.out _ hq) ?_; clear HS1; rintro e y1 ⟨rfl, c1⟩; have p1 := hq.trans (c1.mono hq.size))
              | (go_at_call 30; refine Calls.mono (HS2.out _ p1) ?_; clear HS2; rintro e y2 ⟨rfl, c2⟩; have p2 := p1.trans (c2.mono p1.size))
              | (go_at_call 31; refine Calls.mono (HS3.out _ p2) ?_; clear HS3; rintro e y3 ⟨rfl, c3⟩; have p3 := p2.trans (c3.mono p2.size))
              | (go_at_call 32; refine Calls.mono (HS4.out _ p3) ?_; clear HS4; rintro e y4 ⟨rfl, c4⟩; have p4 := p3.trans (c4.mono p3.size)))
            go_roundw
            case rel => exact ⟨b + 1, by omega, by go_num, p4⟩
            case measure => simp [intOf]; omega
          · have hb' : ¬ (b : Int) < 40 := by omega
            have b9 := hB.trans (hq.mono hB.size)
            clear hD hR hRel
            go_wp2_with (go_at_call 10; refine Calls.mono (HA.out _) ?_; clear HA; rintro ex wz ⟨rfl, hzz⟩)
            go_ret
            exact ⟨rfl, b9.trans (hzz.mono b9.size)⟩
      · have hns' : ¬ (0 : Int) < (NS : Int) := by omega
        go_upto_region 36 with fail
        obtain ⟨d, R, L, v1, v2, v3, M, N, hD, hR, hRel, hB, hdn⟩ := hBD
        go_wp2
        go_loopw [22] (fun i wq => ∃ (b : Nat), b ≤ 40 ∧ i = .int .i64 b ∧ Below wr.heap.size wr wq) (fun i _ => 40 - (intOf i).toNat)
        case atStart => exact ⟨0, by omega, rfl, Below.refl _ _⟩
        case round =>
          rename World => wq
          obtain ⟨b, hb, rfl, hq⟩ := hrel
          by_cases hb40 : b < 40
          · have hb' : (b : Int) < 40 := by omega
            have hbb : 0 ≤ (b : Int) ∧ (b : Int) < d.n := ⟨by omega, by rw [hdn]; omega⟩
            have hwb : IntKind.i64.wrap ((b : Int) + 1) = (b : Int) + 1 := by rw [IntKind.wrap_i64]; omega
            have hl1 := (Dsk.seen_length hD b hbb).1
            have hl2 : (d.sure.block b).length = 256 := by have h9 := kept_len hR.oks (b : Int); rw [hRel.kept] at h9; exact h9
            have HS1 : Hid (∀ wx, Below wr.heap.size wr wx → Calls Try.prog 29 #[.pointer (some ⟨gd, 0, none⟩), .int .i64 b] wx fun e w' => e = .returned (.agg (bs (d.seen b))) ∧ Below wx.heap.size wx w') := fun wx h => seen_in (hD.below h) b hbb
            have HS2 : Hid (∀ wx, Below wr.heap.size wr wx → Calls Try.prog 30 #[.pointer (some ⟨r, 0, none⟩), .int .i64 b] wx fun e w' => e = .returned (.agg (bs (d.seen b))) ∧ Below wx.heap.size wx w') := fun wx h => by rw [← hRel.seen]; exact rseen_any (hR.below h) b
            have HS3 : Hid (∀ wx, Below wr.heap.size wr wx → Calls Try.prog 31 #[.pointer (some ⟨gd, 0, none⟩), .int .i64 b] wx fun e w' => e = .returned (.agg (bs (d.sure.block b))) ∧ Below wx.heap.size wx w') := fun wx h => sure_in (hD.below h) b hbb
            have HS4 : Hid (∀ wx, Below wr.heap.size wr wx → Calls Try.prog 32 #[.pointer (some ⟨r, 0, none⟩), .int .i64 b] wx fun e w' => e = .returned (.agg (bs (d.sure.block b))) ∧ Below wx.heap.size wx w') := fun wx h => by rw [← hRel.kept]; exact rkept_any (hR.below h) b
            have he1 := equal56 (d.seen b) (d.seen b) hl1 hl1
            have he2 := equal56 (d.sure.block b) (d.sure.block b) hl2 hl2
            generalize d.seen b = X1 at HS1 HS2 he1
            generalize d.sure.block b = X2 at HS3 HS4 he2
            simp only [decide_true] at he1 he2
            clear hl1 hl2
            go_wp2_with (first
              | (go_at_call 29; refine Calls.mono (HS1.out _ hq) ?_; clear HS1; rintro e y1 ⟨rfl, c1⟩; have p1 := hq.trans (c1.mono hq.size))
              | (go_at_call 30; refine Calls.mono (HS2.out _ p1) ?_; clear HS2; rintro e y2 ⟨rfl, c2⟩; have p2 := p1.trans (c2.mono p1.size))
              | (go_at_call 31; refine Calls.mono (HS3.out _ p2) ?_; clear HS3; rintro e y3 ⟨rfl, c3⟩; have p3 := p2.trans (c3.mono p2.size))
              | (go_at_call 32; refine Calls.mono (HS4.out _ p3) ?_; clear HS4; rintro e y4 ⟨rfl, c4⟩; have p4 := p3.trans (c4.mono p3.size)))
            go_roundw
            case rel => exact ⟨b + 1, by omega, by go_num, p4⟩
            case measure => simp [intOf]; omega
          · have hb' : ¬ (b : Int) < 40 := by omega
            have b9 := hB.trans (hq.mono hB.size)
            clear hD hR hRel
            go_wp2_with (go_at_call 10; refine Calls.mono (HA.out _) ?_; clear HA; rintro ex wz ⟨rfl, hzz⟩)
            go_ret
            exact ⟨rfl, b9.trans (hzz.mono b9.size)⟩
  | true =>
    have hzz : 1 ≤ z ∧ z ≤ 700 ∧ (os.length : Int) ≤ z := by
      have hokT := hok
      unfold okN okR at hokT
      simp at hokT
      omega
    rw [hok] at HLN HRN
    clear hok hTw
    go_upto_region 9 with (first
      | (at_builtin; refine St.wpList_copy rfl (.tmp 44) (.tmp 45) 23 rfl _ _ rfl rfl (fun ty => HCP.out ty) ?_
         rintro v3 w3 ⟨own3, b3⟩)
      | (go_at_call 11; refine Calls.mono (HLN.out _ _ b3 own3) ?_; clear HLN; rintro e w4 ⟨b4, -, hm4⟩; obtain ⟨gl, vl, hgl, he4, hrow4, hu4⟩ := hm4 rfl; obtain rfl := he4)
      | (go_at_call 12; refine Calls.mono (HRN.out _ (b3.trans (b4.mono b3.size))) ?_; clear HRN; rintro e w5 ⟨-, hm5⟩; obtain ⟨gm, hgm, he5, hNL⟩ := hm5 rfl; obtain rfl := he5))
    have HL0 : Hid (LP w w5 gl gd gm r 0) := lp_start D2 hrg rr hwr B2 b3 b4 hgl hrow4 hu4 hgm hNL ⟨hzz.1, hzz.2.1⟩ hn ⟨hf.1, hfin⟩ hzz.2.2
    clear HGO HCP own3 b3 b4 hrow4 hu4 hNL rr D2 B2 hm4 hm5 hrg hgl hgm hwr
    obtain ⟨so, sc, hsv, hsc⟩ := hS.form
    obtain ⟨NS, HNS⟩ : ∃ NS, Hid (cs.length = NS) := ⟨_, rfl⟩
    rw [HNS.out] at hsv hsc
    have HSC : Hid _ := hsc
    clear hsc hS
    subst hsv
    go_wp2
    go_loopw [15] (fun i wr => ∃ (k : Nat), k ≤ 60 ∧ i = .int .i64 k ∧ LP w wr gl gd gm r k) (fun i _ => 60 - (intOf i).toNat)
    case atStart => exact ⟨0, by omega, rfl, HL0.out⟩
    case round =>
      clear HL0
      obtain ⟨k, hk, rfl, hLP⟩ := hrel
      by_cases hkS : k < NS
      · have hkS' : (k : Int) < (NS : Int) := by omega
        by_cases hk60 : k < 60
        · have hk60' : (k : Int) < 60 := by omega
          obtain ⟨a, c, hsa, hck, hcok, hcc0⟩ := HSC.out k hkS
          subst hsa
          obtain ⟨kd, ss, nn, fs, zl⟩ := c
          obtain ⟨fo, fn, fc, hfs⟩ : ∃ fo fn fc, fs = Value.slice fo fn fc := by
            rcases hcok.fs with ⟨q, _⟩ | ⟨a2, c2, q, _⟩
            · exact ⟨_, _, _, q⟩
            · exact ⟨_, _, _, q⟩
          subst hfs
          obtain ⟨l, d, M, m, R, N, hBS, hLR, hRel, hPI, hdn, hop, hM, hN⟩ := hLP
          have hBw := hBS.b
          have hcc : ∀ j u, ([.int .i64 kd, .string ss, .int .u64 nn, .slice fo fn fc] : List Value)[j]? = some u → wr.cell? ((a.add (k * 4)).add j) = some u := fun j u hj => Ck.cell_keep (hcc0 j u hj) hBw
          have hk0 : (0 : Int) ≤ (k : Int) := by omega
          have hwk : IntKind.i64.wrap ((k : Int) + 1) = (k : Int) + 1 := by rw [IntKind.wrap_i64]; omega
          have HOKC : Hid _ := hcok
          have tl : Hid (1 = 1) := rfl
          have hz39 := zero39
          have q9 : Row (wr.alloc (.cells #[.int .i64 0, .string { data := #[] }, .int .u64 0, .slice none 0 0] 39)) wr.heap.size #[.int .i64 0, .string { data := #[] }, .int .u64 0, .slice none 0 0] 39 := Row.new _ _ _
          clear hck hcok hcc0
          go_upto_region 13 with (first
            | (have hh := tl; clear hh tl; refine load_any_g rfl 39 (.tmp 77) rfl (a.add (k * 4)) rfl [.int .i64 kd, .string ss, .int .u64 nn, .slice fo fn fc] _ hcc Try.underlying39 rfl size39 ?_)
            | (refine store_cells rfl 39 (.tmp 16) (.tmp 78) rfl wr.heap.size #[.int .i64 kd, .string ss, .int .u64 nn, .slice fo fn fc] rfl rfl 39 _ q9 4 size39 rfl rfl (by simp [Value.oneCell']) ?_))
          have s9 := q9.set #[.int .i64 kd, .string ss, .int .u64 nn, .slice fo fn fc]
          have ab9 := below_setRow ((Below.refl wr.heap.size wr).alloc (Nat.le_refl _) (.cells #[.int .i64 0, .string { data := #[] }, .int .u64 0, .slice none 0 0] 39)) (Nat.le_refl _) #[.int .i64 kd, .string ss, .int .u64 nn, .slice fo fn fc]
          have hB9 := B9.mk' hBS ab9 s9 (Nat.le_refl _)
          have hs7 := ab9.size
          clear q9 hcc hz39 ab9 s9 hBS
          generalize (wr.alloc (.cells #[.int .i64 0, .string { data := #[] }, .int .u64 0, .slice none 0 0] 39)).setRow wr.heap.size #[.int .i64 kd, .string ss, .int .u64 nn, .slice fo fn fc] = w7 at hB9 hs7 ⊢
          generalize wr.heap.size = g9 at hB9 hs7 ⊢
          have hinv := hPI.inv
          have hfew := hinv.few
          have hfb := hPI.fin
          have hopen := hinv.op
          have hfi := hinv.fin
          have hmb := hLR.len
          have hl7 := hPI.len
          by_cases hk_0 : kd = 0
          · subst hk_0
            as_aux_lemma =>
              have HA1 : Hid (Calls Try.prog 13 #[.pointer (some ⟨gl, 0, none⟩), .string ss] w7 fun e w' => e = .returned (.tuple #[.int .u64 (appA l ss), .int .i64 (appE l ss)]) ∧ B9 w w' gl gd gm r (appL l ss) (d) (M) (m) (R) (N) g9 #[.int .i64 0, .string ss, .int .u64 nn, .slice fo fn fc]) := hB9.left (fun F hL => LStep.app hL ss HOKC.out.s (by omega) (by omega) (by omega) ⟨hfi, by omega⟩ hinv.next)
              have HA2 : Hid (∀ wx, B9 w wx gl gd gm r (appL l ss) (d) (M) (m) (R) (N) g9 #[.int .i64 0, .string ss, .int .u64 nn, .slice fo fn fc] → Calls Try.prog 14 #[.pointer (some ⟨gm, 0, none⟩), .string ss] wx fun e w' => e = .returned (.tuple #[.int .u64 (appA l ss), .int .i64 (appE l ss)]) ∧ B9 w w' gl gd gm r (appL l ss) (d) (M) (appLM m ss) (R) (N) g9 #[.int .i64 0, .string ss, .int .u64 nn, .slice fo fn fc]) := fun wx h => by
                have h9 := h.right (fun F hL => RLS.app hL ss HOKC.out.s (by omega) (by rw [hLR.op]; omega) (by rw [hLR.op, hLR.fin]; exact ⟨hfi, by omega⟩))
                rw [(hLR.app ss).1, (hLR.app ss).2.1] at h9; exact h9
              have HLPn : Hid (∀ wx, B9 w wx gl gd gm r (appL l ss) (d) (M) (appLM m ss) (R) (N) g9 #[.int .i64 0, .string ss, .int .u64 nn, .slice fo fn fc] → LP w wx gl gd gm r (k + 1)) := fun wx h => ⟨_, _, _, _, _, _, h.bs, (hLR.app ss).2.2, hRel, hPI.app (by omega) ss, hdn, ⟨hop.1, by omega⟩, by omega, by omega⟩
              have x0 := row_at hB9.row 0 _ rfl
              have x1 := row_at hB9.row 1 _ rfl
              clear hLR hRel hPI hB9
              generalize appA l ss = AA at HA1 HA2
              generalize appE l ss = AE at HA1 HA2
              generalize appL l ss = l2 at HA1 HA2 HLPn
              generalize appLM m ss = m2 at HA2 HLPn
              go_upto_region 33 with (first
                | (go_at_call 13; refine Calls.mono HA1.out ?_; clear HA1; rintro e y1 ⟨rfl, t1⟩; have x2 := row_at t1.row 1 _ rfl)
                | (go_at_call 14; refine Calls.mono (HA2.out _ t1) ?_; clear HA2; rintro e y2 ⟨rfl, t2⟩))
              have hLP2 := HLPn.out _ t2
              clear HLPn x0 x1 x2 t1 t2
              obtain ⟨l, d, M, m, R, N, hBS, hLR, hRel, hPI, hdn, hop, hM, hN⟩ := hLP2
              have HLPn : Hid (∀ wx, Below y2.heap.size y2 wx → LP w wx gl gd gm r (k + 1)) := fun wx hb => ⟨l, d, M, m, R, N, hBS.below hb, hLR, hRel, hPI, hdn, hop, hM, hN⟩
              have hfew := hPI.inv.few
              have hmb := hLR.len
              have hl7 := hPI.len
              have hsz := hPI.inv.size
              obtain ⟨vl, vs, L, vb, v1, v2, v3, h1, h2, h3, h4, h5, h6⟩ := hBS
              obtain ⟨ol, cl, hvl⟩ := h1.last.form
              obtain ⟨osl, csl, hvs⟩ := h1.sld.form
              have hlr := h1.row
              rw [hvl, hvs] at hlr
              have HE1 : Hid (∀ wx, Below y2.heap.size y2 wx → Calls Try.prog 23 #[.pointer (some ⟨gl, 0, none⟩)] wx fun e w' => e = .returned (.int .u64 m.fin) ∧ Below wx.heap.size wx w') := fun wx hb => by rw [hLR.fin]; exact end_any gl _ _ _ l wx (h1.row.below hb h1.row.lt)
              have HE2 : Hid (∀ wx, Below y2.heap.size y2 wx → Calls Try.prog 24 #[.pointer (some ⟨gl, 0, none⟩)] wx fun e w' => e = .returned (.int .u64 m.dur) ∧ Below wx.heap.size wx w') := fun wx hb => by rw [hLR.dur]; exact dur_any gl _ _ _ l wx (h1.row.below hb h1.row.lt)
              have HE3 : Hid (∀ wx, Below y2.heap.size y2 wx → Calls Try.prog 25 #[.pointer (some ⟨gl, 0, none⟩)] wx fun e w' => e = .returned (.int .i64 (freeM m)) ∧ Below wx.heap.size wx w') := fun wx hb => by
                rw [← hLR.free hPI.inv.op]
                exact LD.free' (h1.below hb) hPI.inv
              have HE4 : Hid (∀ wx, Below y2.heap.size y2 wx → Calls Try.prog 26 #[.pointer (some ⟨gm, 0, none⟩)] wx fun e w' => e = .returned (.int .i64 (freeM m)) ∧ Below wx.heap.size wx w') := fun wx hb => rfree' (h2.off (Off.of_below (F := fun _ => False) hb) (fun _ _ q => q)) (by omega) (by rw [hLR.sz]; omega)
              have HE5 : Hid (∀ wx, Below y2.heap.size y2 wx → Calls Try.prog 27 #[.pointer (some ⟨gl, 0, none⟩)] wx fun e w' => e = .returned (.int .u32 m.first) ∧ Below wx.heap.size wx w') := fun wx hb => by
                rw [← hLR.tail]
                exact LD.tail' (h1.below hb) hPI.inv
              have HE6 : Hid (∀ wx, Below y2.heap.size y2 wx → Calls Try.prog 28 #[.pointer (some ⟨gd, 0, none⟩)] wx fun e w' => e = .returned (.int .i64 R.ops) ∧ Below wx.heap.size wx w') := fun wx hb => by
                rw [hRel.ops]
                exact (ops_any (h1.dsk.below hb)).mono (fun e w' h => ⟨h.1, by rw [h.2]; exact Below.refl _ _⟩)
              have qm := h2.row
              have qr := h2.dsk.row
              unfold rlcells at qm
              unfold rdcells at qr
              generalize freeM m = FR at HE3 HE4
              clear h1 h2 h3 h4 h5 h6 hlr hLR hRel hPI
              refine wp_region_held_drew (S := fun w' => Row w' gm #[.pointer (some ⟨r, 0, none⟩), .int .i64 m.at_, .int .i64 m.size, .int .u32 m.ep, .int .u32 m.first, vb, .int .i64 m.lasting, .string m.open_, .int .u64 m.fin, .int .u64 m.dur, .bool m.old] 49 ∧ Row w' r #[.int .i64 R.n, v1, v2, v3, .int .i64 R.fuse, .int .i64 R.ops, .bool R.down] 32 ∧ Below y2.heap.size y2 w') (by kernel_rfl) ⟨qm, qr, (Below.refl y2.heap.size y2).drew⟩ fun hS => ?_
              generalize y2.drew = W0 at hS ⊢
              refine wpAnyH_take (i := 0) (v := .pointer (some ⟨gl, 0, none⟩)) rfl (by kernel_rfl) (by kernel_rfl) (by kernel_rfl) (fun _ _ _ h => h) (Or.inl ⟨by rfl, fun w _ => by go_simp⟩) hS ?_
              try simp only [Act.put, nz0, nz1, nz2, nz3, nz4, nz5]
              refine wpAnyH_take (i := 2) (v := .pointer (some ⟨gm, 0, none⟩)) rfl (by kernel_rfl) (by kernel_rfl) (by kernel_rfl) (fun _ _ _ h => h) (Or.inl ⟨by rfl, fun w _ => by go_simp⟩) hS ?_
              try simp only [Act.put, nz0, nz1, nz2, nz3, nz4, nz5]
              refine wpAnyH_take (i := 3) (v := .pointer (some ⟨gm, 0, none⟩)) rfl (by kernel_rfl) (by kernel_rfl) (by kernel_rfl) (fun _ _ _ h => h) (Or.inl ⟨by rfl, fun w _ => by go_simp⟩) hS ?_
              try simp only [Act.put, nz0, nz1, nz2, nz3, nz4, nz5]
              refine wpAnyH_take (i := 4) (v := .pointer (some ⟨gm, 8, none⟩)) rfl (by kernel_rfl) (by kernel_rfl) (by kernel_rfl) (fun _ _ _ h => h) (Or.inl ⟨by rfl, fun w _ => by go_simp⟩) hS ?_
              try simp only [Act.put, nz0, nz1, nz2, nz3, nz4, nz5]
              refine wpAnyH_take (i := 5) (v := .int .u64 m.fin) rfl (by kernel_rfl) (by kernel_rfl) (by kernel_rfl) (fun _ _ _ h => h) (Or.inl ⟨by rfl, fun w h => by have c := row_at h.1 8 _ rfl; go_simp⟩) hS ?_
              try simp only [Act.put, nz0, nz1, nz2, nz3, nz4, nz5]
              refine wpAnyH_ready (rs := [1]) (by kernel_rfl) (by simp) ?_
              refine AllReadyH.cons rfl (fun K hK => ?_) AllReadyH.nil
              go_simp
              go_at_call 23
              refine Calls.mono (HE1.out _ hS.2.2) ?_
              rintro e w1_1 ⟨rfl, hcb⟩
              refine hK.out _ _ (⟨hS.1.below hcb hS.1.lt, hS.2.1.below hcb hS.2.1.lt, hS.2.2.trans (hcb.mono hS.2.2.size)⟩) fun hS => ?_
              try simp only [Act.put, nz0, nz1, nz2, nz3, nz4, nz5]
              clear hcb
              refine wpAnyH_take (i := 6) (v := .bool false) rfl (by kernel_rfl) (by kernel_rfl) (by kernel_rfl) (fun _ _ _ h => h) (Or.inl ⟨by rfl, fun w _ => by go_simp⟩) hS ?_
              try simp only [Act.put, nz0, nz1, nz2, nz3, nz4, nz5]
              refine wpAnyH_take (i := 7) (v := .bool false) rfl (by kernel_rfl) (by kernel_rfl) (by kernel_rfl) (fun _ _ _ h => h) (Or.inl ⟨by rfl, fun w _ => by go_simp⟩) hS ?_
              try simp only [Act.put, nz0, nz1, nz2, nz3, nz4, nz5]
              refine wpAnyH_take (i := 8) (v := .pointer (some ⟨gl, 0, none⟩)) rfl (by kernel_rfl) (by kernel_rfl) (by kernel_rfl) (fun _ _ _ h => h) (Or.inl ⟨by rfl, fun w _ => by go_simp⟩) hS ?_
              try simp only [Act.put, nz0, nz1, nz2, nz3, nz4, nz5]
              refine wpAnyH_take (i := 10) (v := .pointer (some ⟨gm, 0, none⟩)) rfl (by kernel_rfl) (by kernel_rfl) (by kernel_rfl) (fun _ _ _ h => h) (Or.inl ⟨by rfl, fun w _ => by go_simp⟩) hS ?_
              try simp only [Act.put, nz0, nz1, nz2, nz3, nz4, nz5]
              refine wpAnyH_take (i := 11) (v := .pointer (some ⟨gm, 0, none⟩)) rfl (by kernel_rfl) (by kernel_rfl) (by kernel_rfl) (fun _ _ _ h => h) (Or.inl ⟨by rfl, fun w _ => by go_simp⟩) hS ?_
              try simp only [Act.put, nz0, nz1, nz2, nz3, nz4, nz5]
              refine wpAnyH_take (i := 12) (v := .pointer (some ⟨gm, 9, none⟩)) rfl (by kernel_rfl) (by kernel_rfl) (by kernel_rfl) (fun _ _ _ h => h) (Or.inl ⟨by rfl, fun w _ => by go_simp⟩) hS ?_
              try simp only [Act.put, nz0, nz1, nz2, nz3, nz4, nz5]
              refine wpAnyH_take (i := 13) (v := .int .u64 m.dur) rfl (by kernel_rfl) (by kernel_rfl) (by kernel_rfl) (fun _ _ _ h => h) (Or.inl ⟨by rfl, fun w h => by have c := row_at h.1 9 _ rfl; go_simp⟩) hS ?_
              try simp only [Act.put, nz0, nz1, nz2, nz3, nz4, nz5]
              refine wpAnyH_ready (rs := [9]) (by kernel_rfl) (by simp) ?_
              refine AllReadyH.cons rfl (fun K hK => ?_) AllReadyH.nil
              go_simp
              go_at_call 24
              refine Calls.mono (HE2.out _ hS.2.2) ?_
              rintro e w2_9 ⟨rfl, hcb⟩
              refine hK.out _ _ (⟨hS.1.below hcb hS.1.lt, hS.2.1.below hcb hS.2.1.lt, hS.2.2.trans (hcb.mono hS.2.2.size)⟩) fun hS => ?_
              try simp only [Act.put, nz0, nz1, nz2, nz3, nz4, nz5]
              clear hcb
              refine wpAnyH_take (i := 14) (v := .bool false) rfl (by kernel_rfl) (by kernel_rfl) (by kernel_rfl) (fun _ _ _ h => h) (Or.inl ⟨by rfl, fun w _ => by go_simp⟩) hS ?_
              try simp only [Act.put, nz0, nz1, nz2, nz3, nz4, nz5]
              refine wpAnyH_take (i := 15) (v := .bool false) rfl (by kernel_rfl) (by kernel_rfl) (by kernel_rfl) (fun _ _ _ h => h) (Or.inl ⟨by rfl, fun w _ => by go_simp⟩) hS ?_
              try simp only [Act.put, nz0, nz1, nz2, nz3, nz4, nz5]
              refine wpAnyH_take (i := 16) (v := .bool false) rfl (by kernel_rfl) (by kernel_rfl) (by kernel_rfl) (fun _ _ _ h => h) (Or.inl ⟨by rfl, fun w _ => by go_simp⟩) hS ?_
              try simp only [Act.put, nz0, nz1, nz2, nz3, nz4, nz5]
              refine wpAnyH_take (i := 17) (v := .pointer (some ⟨gl, 0, none⟩)) rfl (by kernel_rfl) (by kernel_rfl) (by kernel_rfl) (fun _ _ _ h => h) (Or.inl ⟨by rfl, fun w _ => by go_simp⟩) hS ?_
              try simp only [Act.put, nz0, nz1, nz2, nz3, nz4, nz5]
              refine wpAnyH_take (i := 19) (v := .pointer (some ⟨gm, 0, none⟩)) rfl (by kernel_rfl) (by kernel_rfl) (by kernel_rfl) (fun _ _ _ h => h) (Or.inl ⟨by rfl, fun w _ => by go_simp⟩) hS ?_
              try simp only [Act.put, nz0, nz1, nz2, nz3, nz4, nz5]
              refine wpAnyH_ready (rs := [18]) (by kernel_rfl) (by simp) ?_
              refine AllReadyH.cons rfl (fun K hK => ?_) AllReadyH.nil
              go_simp
              go_at_call 25
              refine Calls.mono (HE3.out _ hS.2.2) ?_
              rintro e w3_18 ⟨rfl, hcb⟩
              refine hK.out _ _ (⟨hS.1.below hcb hS.1.lt, hS.2.1.below hcb hS.2.1.lt, hS.2.2.trans (hcb.mono hS.2.2.size)⟩) fun hS => ?_
              try simp only [Act.put, nz0, nz1, nz2, nz3, nz4, nz5]
              clear hcb
              refine wpAnyH_ready (rs := [20]) (by kernel_rfl) (by simp) ?_
              refine AllReadyH.cons rfl (fun K hK => ?_) AllReadyH.nil
              go_simp
              go_at_call 26
              refine Calls.mono (HE4.out _ hS.2.2) ?_
              rintro e w4_20 ⟨rfl, hcb⟩
              refine hK.out _ _ (⟨hS.1.below hcb hS.1.lt, hS.2.1.below hcb hS.2.1.lt, hS.2.2.trans (hcb.mono hS.2.2.size)⟩) fun hS => ?_
              try simp only [Act.put, nz0, nz1, nz2, nz3, nz4, nz5]
              clear hcb
              refine wpAnyH_take (i := 21) (v := .bool false) rfl (by kernel_rfl) (by kernel_rfl) (by kernel_rfl) (fun _ _ _ h => h) (Or.inl ⟨by rfl, fun w _ => by go_simp⟩) hS ?_
              try simp only [Act.put, nz0, nz1, nz2, nz3, nz4, nz5]
              refine wpAnyH_take (i := 22) (v := .bool false) rfl (by kernel_rfl) (by kernel_rfl) (by kernel_rfl) (fun _ _ _ h => h) (Or.inl ⟨by rfl, fun w _ => by go_simp⟩) hS ?_
              try simp only [Act.put, nz0, nz1, nz2, nz3, nz4, nz5]
              refine wpAnyH_take (i := 23) (v := .bool false) rfl (by kernel_rfl) (by kernel_rfl) (by kernel_rfl) (fun _ _ _ h => h) (Or.inl ⟨by rfl, fun w _ => by go_simp⟩) hS ?_
              try simp only [Act.put, nz0, nz1, nz2, nz3, nz4, nz5]
              refine wpAnyH_take (i := 24) (v := .pointer (some ⟨gl, 0, none⟩)) rfl (by kernel_rfl) (by kernel_rfl) (by kernel_rfl) (fun _ _ _ h => h) (Or.inl ⟨by rfl, fun w _ => by go_simp⟩) hS ?_
              try simp only [Act.put, nz0, nz1, nz2, nz3, nz4, nz5]
              refine wpAnyH_take (i := 26) (v := .pointer (some ⟨gm, 0, none⟩)) rfl (by kernel_rfl) (by kernel_rfl) (by kernel_rfl) (fun _ _ _ h => h) (Or.inl ⟨by rfl, fun w _ => by go_simp⟩) hS ?_
              try simp only [Act.put, nz0, nz1, nz2, nz3, nz4, nz5]
              refine wpAnyH_take (i := 27) (v := .pointer (some ⟨gm, 0, none⟩)) rfl (by kernel_rfl) (by kernel_rfl) (by kernel_rfl) (fun _ _ _ h => h) (Or.inl ⟨by rfl, fun w _ => by go_simp⟩) hS ?_
              try simp only [Act.put, nz0, nz1, nz2, nz3, nz4, nz5]
              refine wpAnyH_take (i := 28) (v := .pointer (some ⟨gm, 4, none⟩)) rfl (by kernel_rfl) (by kernel_rfl) (by kernel_rfl) (fun _ _ _ h => h) (Or.inl ⟨by rfl, fun w _ => by go_simp⟩) hS ?_
              try simp only [Act.put, nz0, nz1, nz2, nz3, nz4, nz5]
              refine wpAnyH_take (i := 29) (v := .int .u32 m.first) rfl (by kernel_rfl) (by kernel_rfl) (by kernel_rfl) (fun _ _ _ h => h) (Or.inl ⟨by rfl, fun w h => by have c := row_at h.1 4 _ rfl; go_simp⟩) hS ?_
              try simp only [Act.put, nz0, nz1, nz2, nz3, nz4, nz5]
              refine wpAnyH_ready (rs := [25]) (by kernel_rfl) (by simp) ?_
              refine AllReadyH.cons rfl (fun K hK => ?_) AllReadyH.nil
              go_simp
              go_at_call 27
              refine Calls.mono (HE5.out _ hS.2.2) ?_
              rintro e w5_25 ⟨rfl, hcb⟩
              refine hK.out _ _ (⟨hS.1.below hcb hS.1.lt, hS.2.1.below hcb hS.2.1.lt, hS.2.2.trans (hcb.mono hS.2.2.size)⟩) fun hS => ?_
              try simp only [Act.put, nz0, nz1, nz2, nz3, nz4, nz5]
              clear hcb
              refine wpAnyH_take (i := 30) (v := .bool false) rfl (by kernel_rfl) (by kernel_rfl) (by kernel_rfl) (fun _ _ _ h => h) (Or.inl ⟨by rfl, fun w _ => by go_simp⟩) hS ?_
              try simp only [Act.put, nz0, nz1, nz2, nz3, nz4, nz5]
              refine wpAnyH_take (i := 31) (v := .bool false) rfl (by kernel_rfl) (by kernel_rfl) (by kernel_rfl) (fun _ _ _ h => h) (Or.inl ⟨by rfl, fun w _ => by go_simp⟩) hS ?_
              try simp only [Act.put, nz0, nz1, nz2, nz3, nz4, nz5]
              refine wpAnyH_take (i := 32) (v := .bool false) rfl (by kernel_rfl) (by kernel_rfl) (by kernel_rfl) (fun _ _ _ h => h) (Or.inl ⟨by rfl, fun w _ => by go_simp⟩) hS ?_
              try simp only [Act.put, nz0, nz1, nz2, nz3, nz4, nz5]
              refine wpAnyH_take (i := 33) (v := .pointer (some ⟨gd, 0, none⟩)) rfl (by kernel_rfl) (by kernel_rfl) (by kernel_rfl) (fun _ _ _ h => h) (Or.inl ⟨by rfl, fun w _ => by go_simp⟩) hS ?_
              try simp only [Act.put, nz0, nz1, nz2, nz3, nz4, nz5]
              refine wpAnyH_take (i := 35) (v := .pointer (some ⟨r, 0, none⟩)) rfl (by kernel_rfl) (by kernel_rfl) (by kernel_rfl) (fun _ _ _ h => h) (Or.inl ⟨by rfl, fun w _ => by go_simp⟩) hS ?_
              try simp only [Act.put, nz0, nz1, nz2, nz3, nz4, nz5]
              refine wpAnyH_take (i := 36) (v := .pointer (some ⟨r, 0, none⟩)) rfl (by kernel_rfl) (by kernel_rfl) (by kernel_rfl) (fun _ _ _ h => h) (Or.inl ⟨by rfl, fun w _ => by go_simp⟩) hS ?_
              try simp only [Act.put, nz0, nz1, nz2, nz3, nz4, nz5]
              refine wpAnyH_take (i := 37) (v := .pointer (some ⟨r, 5, none⟩)) rfl (by kernel_rfl) (by kernel_rfl) (by kernel_rfl) (fun _ _ _ h => h) (Or.inl ⟨by rfl, fun w _ => by go_simp⟩) hS ?_
              try simp only [Act.put, nz0, nz1, nz2, nz3, nz4, nz5]
              refine wpAnyH_take (i := 38) (v := .int .i64 R.ops) rfl (by kernel_rfl) (by kernel_rfl) (by kernel_rfl) (fun _ _ _ h => h) (Or.inl ⟨by rfl, fun w h => by have c := row_at h.2.1 5 _ rfl; go_simp⟩) hS ?_
              try simp only [Act.put, nz0, nz1, nz2, nz3, nz4, nz5]
              refine wpAnyH_ready (rs := [34]) (by kernel_rfl) (by simp) ?_
              refine AllReadyH.cons rfl (fun K hK => ?_) AllReadyH.nil
              go_simp
              go_at_call 28
              refine Calls.mono (HE6.out _ hS.2.2) ?_
              rintro e w6_34 ⟨rfl, hcb⟩
              refine hK.out _ _ (⟨hS.1.below hcb hS.1.lt, hS.2.1.below hcb hS.2.1.lt, hS.2.2.trans (hcb.mono hS.2.2.size)⟩) fun hS => ?_
              try simp only [Act.put, nz0, nz1, nz2, nz3, nz4, nz5]
              clear hcb
              refine wpAnyH_take (i := 39) (v := .bool false) rfl (by kernel_rfl) (by kernel_rfl) (by kernel_rfl) (fun _ _ _ h => h) (Or.inl ⟨by rfl, fun w _ => by go_simp⟩) hS ?_
              try simp only [Act.put, nz0, nz1, nz2, nz3, nz4, nz5]
              refine wpAnyH_take (i := 40) (v := .bool false) rfl (by kernel_rfl) (by kernel_rfl) (by kernel_rfl) (fun _ _ _ h => h) (Or.inl ⟨by rfl, fun w _ => by go_simp⟩) hS ?_
              try simp only [Act.put, nz0, nz1, nz2, nz3, nz4, nz5]
              refine wpAnyH_done (by kernel_rfl) ?_ _
              go_wp2
              go_roundw
              case rel => exact ⟨k + 1, by omega, by go_num, HLPn.out _ hS.2.2⟩
              case measure => simp [intOf]; omega
          by_cases hk_1 : kd = 1
          · subst hk_1
            as_aux_lemma =>
              have hrf := rel_flush hLR hRel hPI.df
              have hcl := hLR.rinv hPI (by omega)
              have hcnt := rflush_cnt m R hcl.len (by rw [hRel.ops]; exact hop.1)
              have HA1 : Hid (Calls Try.prog 15 #[.pointer (some ⟨gl, 0, none⟩)] w7 fun e w' => e = .returned (.int .i64 (flushR l d).1) ∧ B9 w w' gl gd gm r ((flushR l d).2.1) ((flushR l d).2.2) (M + 4000) (m) (R) (N) g9 #[.int .i64 1, .string ss, .int .u64 nn, .slice fo fn fc]) := hB9.left (fun F hL => LStep.flush hL hinv (by omega) (by omega) (by omega))
              have HA2 : Hid (∀ wx, B9 w wx gl gd gm r ((flushR l d).2.1) ((flushR l d).2.2) (M + 4000) (m) (R) (N) g9 #[.int .i64 1, .string ss, .int .u64 nn, .slice fo fn fc] → Calls Try.prog 16 #[.pointer (some ⟨gm, 0, none⟩)] wx fun e w' => e = .returned (.int .i64 (flushR l d).1) ∧ B9 w w' gl gd gm r ((flushR l d).2.1) ((flushR l d).2.2) (M + 4000) ((rflushR m R).2.1) ((rflushR m R).2.2) (N + 8000) g9 #[.int .i64 1, .string ss, .int .u64 nn, .slice fo fn fc]) := fun wx h => by
                have h9 := h.right (fun F hL => RLS.flush hL hcl (by rw [hLR.op, hLR.fin]; exact ⟨hfi, by omega⟩) (by rw [hLR.op]; omega) (by omega) (by rw [hRel.ops]; omega) (by omega))
                rw [hrf.1] at h9; exact h9
              have HLPn : Hid (∀ wx, B9 w wx gl gd gm r ((flushR l d).2.1) ((flushR l d).2.2) (M + 4000) ((rflushR m R).2.1) ((rflushR m R).2.2) (N + 8000) g9 #[.int .i64 1, .string ss, .int .u64 nn, .slice fo fn fc] → LP w wx gl gd gm r (k + 1)) := fun wx h => ⟨_, _, _, _, _, _, h.bs, hrf.2.1, hrf.2.2, hPI.flush (by omega) d, by rw [← hrf.2.2.n, hcnt.1, hRel.n]; exact hdn, ⟨by rw [← hrf.2.2.ops]; exact h.ops0, by rw [← hrf.2.2.ops]; have h8 := hcnt.2; rw [hRel.ops] at h8; omega⟩, by omega, by omega⟩
              have x0 := row_at hB9.row 0 _ rfl
              clear hLR hRel hPI hB9 hcl hcnt hrf
              generalize flushR l d = fl at HA1 HA2 HLPn
              generalize rflushR m R = rf at HA2 HLPn
              go_upto_region 33 with (first
                | (go_at_call 15; refine Calls.mono HA1.out ?_; clear HA1; rintro e y1 ⟨rfl, t1⟩)
                | (go_at_call 16; refine Calls.mono (HA2.out _ t1) ?_; clear HA2; rintro e y2 ⟨rfl, t2⟩))
              have hLP2 := HLPn.out _ t2
              clear HLPn x0 t1 t2
              obtain ⟨l, d, M, m, R, N, hBS, hLR, hRel, hPI, hdn, hop, hM, hN⟩ := hLP2
              have HLPn : Hid (∀ wx, Below y2.heap.size y2 wx → LP w wx gl gd gm r (k + 1)) := fun wx hb => ⟨l, d, M, m, R, N, hBS.below hb, hLR, hRel, hPI, hdn, hop, hM, hN⟩
              have hfew := hPI.inv.few
              have hmb := hLR.len
              have hl7 := hPI.len
              have hsz := hPI.inv.size
              obtain ⟨vl, vs, L, vb, v1, v2, v3, h1, h2, h3, h4, h5, h6⟩ := hBS
              obtain ⟨ol, cl, hvl⟩ := h1.last.form
              obtain ⟨osl, csl, hvs⟩ := h1.sld.form
              have hlr := h1.row
              rw [hvl, hvs] at hlr
              have HE1 : Hid (∀ wx, Below y2.heap.size y2 wx → Calls Try.prog 23 #[.pointer (some ⟨gl, 0, none⟩)] wx fun e w' => e = .returned (.int .u64 m.fin) ∧ Below wx.heap.size wx w') := fun wx hb => by rw [hLR.fin]; exact end_any gl _ _ _ l wx (h1.row.below hb h1.row.lt)
              have HE2 : Hid (∀ wx, Below y2.heap.size y2 wx → Calls Try.prog 24 #[.pointer (some ⟨gl, 0, none⟩)] wx fun e w' => e = .returned (.int .u64 m.dur) ∧ Below wx.heap.size wx w') := fun wx hb => by rw [hLR.dur]; exact dur_any gl _ _ _ l wx (h1.row.below hb h1.row.lt)
              have HE3 : Hid (∀ wx, Below y2.heap.size y2 wx → Calls Try.prog 25 #[.pointer (some ⟨gl, 0, none⟩)] wx fun e w' => e = .returned (.int .i64 (freeM m)) ∧ Below wx.heap.size wx w') := fun wx hb => by
                rw [← hLR.free hPI.inv.op]
                exact LD.free' (h1.below hb) hPI.inv
              have HE4 : Hid (∀ wx, Below y2.heap.size y2 wx → Calls Try.prog 26 #[.pointer (some ⟨gm, 0, none⟩)] wx fun e w' => e = .returned (.int .i64 (freeM m)) ∧ Below wx.heap.size wx w') := fun wx hb => rfree' (h2.off (Off.of_below (F := fun _ => False) hb) (fun _ _ q => q)) (by omega) (by rw [hLR.sz]; omega)
              have HE5 : Hid (∀ wx, Below y2.heap.size y2 wx → Calls Try.prog 27 #[.pointer (some ⟨gl, 0, none⟩)] wx fun e w' => e = .returned (.int .u32 m.first) ∧ Below wx.heap.size wx w') := fun wx hb => by
                rw [← hLR.tail]
                exact LD.tail' (h1.below hb) hPI.inv
              have HE6 : Hid (∀ wx, Below y2.heap.size y2 wx → Calls Try.prog 28 #[.pointer (some ⟨gd, 0, none⟩)] wx fun e w' => e = .returned (.int .i64 R.ops) ∧ Below wx.heap.size wx w') := fun wx hb => by
                rw [hRel.ops]
                exact (ops_any (h1.dsk.below hb)).mono (fun e w' h => ⟨h.1, by rw [h.2]; exact Below.refl _ _⟩)
              have qm := h2.row
              have qr := h2.dsk.row
              unfold rlcells at qm
              unfold rdcells at qr
              generalize freeM m = FR at HE3 HE4
              clear h1 h2 h3 h4 h5 h6 hlr hLR hRel hPI
              refine wp_region_held_drew (S := fun w' => Row w' gm #[.pointer (some ⟨r, 0, none⟩), .int .i64 m.at_, .int .i64 m.size, .int .u32 m.ep, .int .u32 m.first, vb, .int .i64 m.lasting, .string m.open_, .int .u64 m.fin, .int .u64 m.dur, .bool m.old] 49 ∧ Row w' r #[.int .i64 R.n, v1, v2, v3, .int .i64 R.fuse, .int .i64 R.ops, .bool R.down] 32 ∧ Below y2.heap.size y2 w') (by kernel_rfl) ⟨qm, qr, (Below.refl y2.heap.size y2).drew⟩ fun hS => ?_
              generalize y2.drew = W0 at hS ⊢
              refine wpAnyH_take (i := 0) (v := .pointer (some ⟨gl, 0, none⟩)) rfl (by kernel_rfl) (by kernel_rfl) (by kernel_rfl) (fun _ _ _ h => h) (Or.inl ⟨by rfl, fun w _ => by go_simp⟩) hS ?_
              try simp only [Act.put, nz0, nz1, nz2, nz3, nz4, nz5]
              refine wpAnyH_take (i := 2) (v := .pointer (some ⟨gm, 0, none⟩)) rfl (by kernel_rfl) (by kernel_rfl) (by kernel_rfl) (fun _ _ _ h => h) (Or.inl ⟨by rfl, fun w _ => by go_simp⟩) hS ?_
              try simp only [Act.put, nz0, nz1, nz2, nz3, nz4, nz5]
              refine wpAnyH_take (i := 3) (v := .pointer (some ⟨gm, 0, none⟩)) rfl (by kernel_rfl) (by kernel_rfl) (by kernel_rfl) (fun _ _ _ h => h) (Or.inl ⟨by rfl, fun w _ => by go_simp⟩) hS ?_
              try simp only [Act.put, nz0, nz1, nz2, nz3, nz4, nz5]
              refine wpAnyH_take (i := 4) (v := .pointer (some ⟨gm, 8, none⟩)) rfl (by kernel_rfl) (by kernel_rfl) (by kernel_rfl) (fun _ _ _ h => h) (Or.inl ⟨by rfl, fun w _ => by go_simp⟩) hS ?_
              try simp only [Act.put, nz0, nz1, nz2, nz3, nz4, nz5]
              refine wpAnyH_take (i := 5) (v := .int .u64 m.fin) rfl (by kernel_rfl) (by kernel_rfl) (by kernel_rfl) (fun _ _ _ h => h) (Or.inl ⟨by rfl, fun w h => by have c := row_at h.1 8 _ rfl; go_simp⟩) hS ?_
              try simp only [Act.put, nz0, nz1, nz2, nz3, nz4, nz5]
              refine wpAnyH_ready (rs := [1]) (by kernel_rfl) (by simp) ?_
              refine AllReadyH.cons rfl (fun K hK => ?_) AllReadyH.nil
              go_simp
              go_at_call 23
              refine Calls.mono (HE1.out _ hS.2.2) ?_
              rintro e w1_1 ⟨rfl, hcb⟩
              refine hK.out _ _ (⟨hS.1.below hcb hS.1.lt, hS.2.1.below hcb hS.2.1.lt, hS.2.2.trans (hcb.mono hS.2.2.size)⟩) fun hS => ?_
              try simp only [Act.put, nz0, nz1, nz2, nz3, nz4, nz5]
              clear hcb
              refine wpAnyH_take (i := 6) (v := .bool false) rfl (by kernel_rfl) (by kernel_rfl) (by kernel_rfl) (fun _ _ _ h => h) (Or.inl ⟨by rfl, fun w _ => by go_simp⟩) hS ?_
              try simp only [Act.put, nz0, nz1, nz2, nz3, nz4, nz5]
              refine wpAnyH_take (i := 7) (v := .bool false) rfl (by kernel_rfl) (by kernel_rfl) (by kernel_rfl) (fun _ _ _ h => h) (Or.inl ⟨by rfl, fun w _ => by go_simp⟩) hS ?_
              try simp only [Act.put, nz0, nz1, nz2, nz3, nz4, nz5]
              refine wpAnyH_take (i := 8) (v := .pointer (some ⟨gl, 0, none⟩)) rfl (by kernel_rfl) (by kernel_rfl) (by kernel_rfl) (fun _ _ _ h => h) (Or.inl ⟨by rfl, fun w _ => by go_simp⟩) hS ?_
              try simp only [Act.put, nz0, nz1, nz2, nz3, nz4, nz5]
              refine wpAnyH_take (i := 10) (v := .pointer (some ⟨gm, 0, none⟩)) rfl (by kernel_rfl) (by kernel_rfl) (by kernel_rfl) (fun _ _ _ h => h) (Or.inl ⟨by rfl, fun w _ => by go_simp⟩) hS ?_
              try simp only [Act.put, nz0, nz1, nz2, nz3, nz4, nz5]
              refine wpAnyH_take (i := 11) (v := .pointer (some ⟨gm, 0, none⟩)) rfl (by kernel_rfl) (by kernel_rfl) (by kernel_rfl) (fun _ _ _ h => h) (Or.inl ⟨by rfl, fun w _ => by go_simp⟩) hS ?_
              try simp only [Act.put, nz0, nz1, nz2, nz3, nz4, nz5]
              refine wpAnyH_take (i := 12) (v := .pointer (some ⟨gm, 9, none⟩)) rfl (by kernel_rfl) (by kernel_rfl) (by kernel_rfl) (fun _ _ _ h => h) (Or.inl ⟨by rfl, fun w _ => by go_simp⟩) hS ?_
              try simp only [Act.put, nz0, nz1, nz2, nz3, nz4, nz5]
              refine wpAnyH_take (i := 13) (v := .int .u64 m.dur) rfl (by kernel_rfl) (by kernel_rfl) (by kernel_rfl) (fun _ _ _ h => h) (Or.inl ⟨by rfl, fun w h => by have c := row_at h.1 9 _ rfl; go_simp⟩) hS ?_
              try simp only [Act.put, nz0, nz1, nz2, nz3, nz4, nz5]
              refine wpAnyH_ready (rs := [9]) (by kernel_rfl) (by simp) ?_
              refine AllReadyH.cons rfl (fun K hK => ?_) AllReadyH.nil
              go_simp
              go_at_call 24
              refine Calls.mono (HE2.out _ hS.2.2) ?_
              rintro e w2_9 ⟨rfl, hcb⟩
              refine hK.out _ _ (⟨hS.1.below hcb hS.1.lt, hS.2.1.below hcb hS.2.1.lt, hS.2.2.trans (hcb.mono hS.2.2.size)⟩) fun hS => ?_
              try simp only [Act.put, nz0, nz1, nz2, nz3, nz4, nz5]
              clear hcb
              refine wpAnyH_take (i := 14) (v := .bool false) rfl (by kernel_rfl) (by kernel_rfl) (by kernel_rfl) (fun _ _ _ h => h) (Or.inl ⟨by rfl, fun w _ => by go_simp⟩) hS ?_
              try simp only [Act.put, nz0, nz1, nz2, nz3, nz4, nz5]
              refine wpAnyH_take (i := 15) (v := .bool false) rfl (by kernel_rfl) (by kernel_rfl) (by kernel_rfl) (fun _ _ _ h => h) (Or.inl ⟨by rfl, fun w _ => by go_simp⟩) hS ?_
              try simp only [Act.put, nz0, nz1, nz2, nz3, nz4, nz5]
              refine wpAnyH_take (i := 16) (v := .bool false) rfl (by kernel_rfl) (by kernel_rfl) (by kernel_rfl) (fun _ _ _ h => h) (Or.inl ⟨by rfl, fun w _ => by go_simp⟩) hS ?_
              try simp only [Act.put, nz0, nz1, nz2, nz3, nz4, nz5]
              refine wpAnyH_take (i := 17) (v := .pointer (some ⟨gl, 0, none⟩)) rfl (by kernel_rfl) (by kernel_rfl) (by kernel_rfl) (fun _ _ _ h => h) (Or.inl ⟨by rfl, fun w _ => by go_simp⟩) hS ?_
              try simp only [Act.put, nz0, nz1, nz2, nz3, nz4, nz5]
              refine wpAnyH_take (i := 19) (v := .pointer (some ⟨gm, 0, none⟩)) rfl (by kernel_rfl) (by kernel_rfl) (by kernel_rfl) (fun _ _ _ h => h) (Or.inl ⟨by rfl, fun w _ => by go_simp⟩) hS ?_
              try simp only [Act.put, nz0, nz1, nz2, nz3, nz4, nz5]
              refine wpAnyH_ready (rs := [18]) (by kernel_rfl) (by simp) ?_
              refine AllReadyH.cons rfl (fun K hK => ?_) AllReadyH.nil
              go_simp
              go_at_call 25
              refine Calls.mono (HE3.out _ hS.2.2) ?_
              rintro e w3_18 ⟨rfl, hcb⟩
              refine hK.out _ _ (⟨hS.1.below hcb hS.1.lt, hS.2.1.below hcb hS.2.1.lt, hS.2.2.trans (hcb.mono hS.2.2.size)⟩) fun hS => ?_
              try simp only [Act.put, nz0, nz1, nz2, nz3, nz4, nz5]
              clear hcb
              refine wpAnyH_ready (rs := [20]) (by kernel_rfl) (by simp) ?_
              refine AllReadyH.cons rfl (fun K hK => ?_) AllReadyH.nil
              go_simp
              go_at_call 26
              refine Calls.mono (HE4.out _ hS.2.2) ?_
              rintro e w4_20 ⟨rfl, hcb⟩
              refine hK.out _ _ (⟨hS.1.below hcb hS.1.lt, hS.2.1.below hcb hS.2.1.lt, hS.2.2.trans (hcb.mono hS.2.2.size)⟩) fun hS => ?_
              try simp only [Act.put, nz0, nz1, nz2, nz3, nz4, nz5]
              clear hcb
              refine wpAnyH_take (i := 21) (v := .bool false) rfl (by kernel_rfl) (by kernel_rfl) (by kernel_rfl) (fun _ _ _ h => h) (Or.inl ⟨by rfl, fun w _ => by go_simp⟩) hS ?_
              try simp only [Act.put, nz0, nz1, nz2, nz3, nz4, nz5]
              refine wpAnyH_take (i := 22) (v := .bool false) rfl (by kernel_rfl) (by kernel_rfl) (by kernel_rfl) (fun _ _ _ h => h) (Or.inl ⟨by rfl, fun w _ => by go_simp⟩) hS ?_
              try simp only [Act.put, nz0, nz1, nz2, nz3, nz4, nz5]
              refine wpAnyH_take (i := 23) (v := .bool false) rfl (by kernel_rfl) (by kernel_rfl) (by kernel_rfl) (fun _ _ _ h => h) (Or.inl ⟨by rfl, fun w _ => by go_simp⟩) hS ?_
              try simp only [Act.put, nz0, nz1, nz2, nz3, nz4, nz5]
              refine wpAnyH_take (i := 24) (v := .pointer (some ⟨gl, 0, none⟩)) rfl (by kernel_rfl) (by kernel_rfl) (by kernel_rfl) (fun _ _ _ h => h) (Or.inl ⟨by rfl, fun w _ => by go_simp⟩) hS ?_
              try simp only [Act.put, nz0, nz1, nz2, nz3, nz4, nz5]
              refine wpAnyH_take (i := 26) (v := .pointer (some ⟨gm, 0, none⟩)) rfl (by kernel_rfl) (by kernel_rfl) (by kernel_rfl) (fun _ _ _ h => h) (Or.inl ⟨by rfl, fun w _ => by go_simp⟩) hS ?_
              try simp only [Act.put, nz0, nz1, nz2, nz3, nz4, nz5]
              refine wpAnyH_take (i := 27) (v := .pointer (some ⟨gm, 0, none⟩)) rfl (by kernel_rfl) (by kernel_rfl) (by kernel_rfl) (fun _ _ _ h => h) (Or.inl ⟨by rfl, fun w _ => by go_simp⟩) hS ?_
              try simp only [Act.put, nz0, nz1, nz2, nz3, nz4, nz5]
              refine wpAnyH_take (i := 28) (v := .pointer (some ⟨gm, 4, none⟩)) rfl (by kernel_rfl) (by kernel_rfl) (by kernel_rfl) (fun _ _ _ h => h) (Or.inl ⟨by rfl, fun w _ => by go_simp⟩) hS ?_
              try simp only [Act.put, nz0, nz1, nz2, nz3, nz4, nz5]
              refine wpAnyH_take (i := 29) (v := .int .u32 m.first) rfl (by kernel_rfl) (by kernel_rfl) (by kernel_rfl) (fun _ _ _ h => h) (Or.inl ⟨by rfl, fun w h => by have c := row_at h.1 4 _ rfl; go_simp⟩) hS ?_
              try simp only [Act.put, nz0, nz1, nz2, nz3, nz4, nz5]
              refine wpAnyH_ready (rs := [25]) (by kernel_rfl) (by simp) ?_
              refine AllReadyH.cons rfl (fun K hK => ?_) AllReadyH.nil
              go_simp
              go_at_call 27
              refine Calls.mono (HE5.out _ hS.2.2) ?_
              rintro e w5_25 ⟨rfl, hcb⟩
              refine hK.out _ _ (⟨hS.1.below hcb hS.1.lt, hS.2.1.below hcb hS.2.1.lt, hS.2.2.trans (hcb.mono hS.2.2.size)⟩) fun hS => ?_
              try simp only [Act.put, nz0, nz1, nz2, nz3, nz4, nz5]
              clear hcb
              refine wpAnyH_take (i := 30) (v := .bool false) rfl (by kernel_rfl) (by kernel_rfl) (by kernel_rfl) (fun _ _ _ h => h) (Or.inl ⟨by rfl, fun w _ => by go_simp⟩) hS ?_
              try simp only [Act.put, nz0, nz1, nz2, nz3, nz4, nz5]
              refine wpAnyH_take (i := 31) (v := .bool false) rfl (by kernel_rfl) (by kernel_rfl) (by kernel_rfl) (fun _ _ _ h => h) (Or.inl ⟨by rfl, fun w _ => by go_simp⟩) hS ?_
              try simp only [Act.put, nz0, nz1, nz2, nz3, nz4, nz5]
              refine wpAnyH_take (i := 32) (v := .bool false) rfl (by kernel_rfl) (by kernel_rfl) (by kernel_rfl) (fun _ _ _ h => h) (Or.inl ⟨by rfl, fun w _ => by go_simp⟩) hS ?_
              try simp only [Act.put, nz0, nz1, nz2, nz3, nz4, nz5]
              refine wpAnyH_take (i := 33) (v := .pointer (some ⟨gd, 0, none⟩)) rfl (by kernel_rfl) (by kernel_rfl) (by kernel_rfl) (fun _ _ _ h => h) (Or.inl ⟨by rfl, fun w _ => by go_simp⟩) hS ?_
              try simp only [Act.put, nz0, nz1, nz2, nz3, nz4, nz5]
              refine wpAnyH_take (i := 35) (v := .pointer (some ⟨r, 0, none⟩)) rfl (by kernel_rfl) (by kernel_rfl) (by kernel_rfl) (fun _ _ _ h => h) (Or.inl ⟨by rfl, fun w _ => by go_simp⟩) hS ?_
              try simp only [Act.put, nz0, nz1, nz2, nz3, nz4, nz5]
              refine wpAnyH_take (i := 36) (v := .pointer (some ⟨r, 0, none⟩)) rfl (by kernel_rfl) (by kernel_rfl) (by kernel_rfl) (fun _ _ _ h => h) (Or.inl ⟨by rfl, fun w _ => by go_simp⟩) hS ?_
              try simp only [Act.put, nz0, nz1, nz2, nz3, nz4, nz5]
              refine wpAnyH_take (i := 37) (v := .pointer (some ⟨r, 5, none⟩)) rfl (by kernel_rfl) (by kernel_rfl) (by kernel_rfl) (fun _ _ _ h => h) (Or.inl ⟨by rfl, fun w _ => by go_simp⟩) hS ?_
              try simp only [Act.put, nz0, nz1, nz2, nz3, nz4, nz5]
              refine wpAnyH_take (i := 38) (v := .int .i64 R.ops) rfl (by kernel_rfl) (by kernel_rfl) (by kernel_rfl) (fun _ _ _ h => h) (Or.inl ⟨by rfl, fun w h => by have c := row_at h.2.1 5 _ rfl; go_simp⟩) hS ?_
              try simp only [Act.put, nz0, nz1, nz2, nz3, nz4, nz5]
              refine wpAnyH_ready (rs := [34]) (by kernel_rfl) (by simp) ?_
              refine AllReadyH.cons rfl (fun K hK => ?_) AllReadyH.nil
              go_simp
              go_at_call 28
              refine Calls.mono (HE6.out _ hS.2.2) ?_
              rintro e w6_34 ⟨rfl, hcb⟩
              refine hK.out _ _ (⟨hS.1.below hcb hS.1.lt, hS.2.1.below hcb hS.2.1.lt, hS.2.2.trans (hcb.mono hS.2.2.size)⟩) fun hS => ?_
              try simp only [Act.put, nz0, nz1, nz2, nz3, nz4, nz5]
              clear hcb
              refine wpAnyH_take (i := 39) (v := .bool false) rfl (by kernel_rfl) (by kernel_rfl) (by kernel_rfl) (fun _ _ _ h => h) (Or.inl ⟨by rfl, fun w _ => by go_simp⟩) hS ?_
              try simp only [Act.put, nz0, nz1, nz2, nz3, nz4, nz5]
              refine wpAnyH_take (i := 40) (v := .bool false) rfl (by kernel_rfl) (by kernel_rfl) (by kernel_rfl) (fun _ _ _ h => h) (Or.inl ⟨by rfl, fun w _ => by go_simp⟩) hS ?_
              try simp only [Act.put, nz0, nz1, nz2, nz3, nz4, nz5]
              refine wpAnyH_done (by kernel_rfl) ?_ _
              go_wp2
              go_roundw
              case rel => exact ⟨k + 1, by omega, by go_num, HLPn.out _ hS.2.2⟩
              case measure => simp [intOf]; omega
          by_cases hk_2 : kd = 2
          · subst hk_2
            as_aux_lemma =>
              have HT1 : Hid (∀ nv wx, B9 w wx gl gd gm r (l) (d) (M) (m) (R) (N) g9 #[.int .i64 2, .string ss, .int .u64 nn, .slice fo fn fc] → Calls Try.prog 17 #[.pointer (some ⟨gl, 0, none⟩), .int .u64 nv] wx fun e w' => e = .returned (.int .u32 (fromM m nv)) ∧ B9 w w' gl gd gm r (l) (d) (M) (m) (R) (N) g9 #[.int .i64 2, .string ss, .int .u64 nn, .slice fo fn fc]) := fun nv wx h => by
                have h9 := h.left (fun F hL => LStep.from hL nv (by omega) (by omega))
                rw [hLR.from nv] at h9; exact h9
              have HT2 : Hid (∀ nv wx, B9 w wx gl gd gm r (l) (d) (M) (m) (R) (N) g9 #[.int .i64 2, .string ss, .int .u64 nn, .slice fo fn fc] → Calls Try.prog 18 #[.pointer (some ⟨gm, 0, none⟩), .int .u64 nv] wx fun e w' => e = .returned (.int .u32 (fromM m nv)) ∧ B9 w w' gl gd gm r (l) (d) (M) (m) (R) (N) g9 #[.int .i64 2, .string ss, .int .u64 nn, .slice fo fn fc]) := fun nv wx h => h.right (fun F hL => RLS.from hL nv (by omega) hLR.le)
              have HT3 : Hid (∀ nv wx, B9 w wx gl gd gm r (l) (d) (M) (m) (R) (N) g9 #[.int .i64 2, .string ss, .int .u64 nn, .slice fo fn fc] → Calls Try.prog 19 #[.pointer (some ⟨gl, 0, none⟩), .int .u64 nv] wx fun e w' => e = .returned (.tuple #[]) ∧ B9 w w' gl gd gm r (l.trim nv) (d) (M) (m) (R) (N) g9 #[.int .i64 2, .string ss, .int .u64 nn, .slice fo fn fc]) := fun nv wx h => h.left (fun F hL => LStep.trim hL nv (by omega))
              have HT4 : Hid (∀ nv wx, B9 w wx gl gd gm r (l.trim nv) (d) (M) (m) (R) (N) g9 #[.int .i64 2, .string ss, .int .u64 nn, .slice fo fn fc] → Calls Try.prog 20 #[.pointer (some ⟨gm, 0, none⟩), .int .u64 nv] wx fun e w' => e = .returned (.tuple #[]) ∧ B9 w w' gl gd gm r (l.trim nv) (d) (M) (m.trim nv) (R) (N) g9 #[.int .i64 2, .string ss, .int .u64 nn, .slice fo fn fc]) := fun nv wx h => h.right (fun F hL => RLS.trim hL nv (by omega) hLR.le hLR.first)
              have HLPn : Hid (∀ nv wx, B9 w wx gl gd gm r (l.trim nv) (d) (M) (m.trim nv) (R) (N) g9 #[.int .i64 2, .string ss, .int .u64 nn, .slice fo fn fc] → LP w wx gl gd gm r (k + 1)) := fun nv wx h => ⟨_, _, _, _, _, _, h.bs, hLR.trim nv, hRel, hPI.trim nv, hdn, ⟨hop.1, by omega⟩, by omega, by omega⟩
              have x0 := row_at hB9.row 0 _ rfl
              have x2 := row_at hB9.row 2 _ rfl
              have hnn := HOKC.out.n
              clear hLR hRel hPI
              by_cases hev : nn.tmod 2 = 0
              · have hev' : nn.tmod 2 = 0 := hev
                obtain ⟨vb, qm⟩ : ∃ vb, Row w7 gm (rlcells (.pointer (some ⟨r, 0, none⟩)) vb m) 49 := by
                  obtain ⟨vl, vs, L, vb, v1, v2, v3, h1, h2, _⟩ := hB9
                  exact ⟨vb, h2.row⟩
                unfold rlcells at qm
                obtain ⟨n3, hn3⟩ : ∃ n3, IntKind.u64.wrap (m.fin + 3) = n3 := ⟨_, rfl⟩
                obtain ⟨n7, hn7⟩ : ∃ n7, nn.tmod 7 = n7 := ⟨_, rfl⟩
                obtain ⟨nm, hnm⟩ : ∃ nm, Hid ((if n7 < m.fin then n7 else m.fin) = nm) := ⟨_, rfl⟩
                obtain ⟨nv, hnv⟩ : ∃ nv, IntKind.u64.wrap (n3 - nm) = nv := ⟨_, rfl⟩
                go_upto_region 25 with fail
                clear x0 x2
                refine wp_region_held_drew (S := fun w' => Row w' gm #[.pointer (some ⟨r, 0, none⟩), .int .i64 m.at_, .int .i64 m.size, .int .u32 m.ep, .int .u32 m.first, vb, .int .i64 m.lasting, .string m.open_, .int .u64 m.fin, .int .u64 m.dur, .bool m.old] 49 ∧ Below w7.heap.size w7 w') (by kernel_rfl) ⟨qm, (Below.refl w7.heap.size w7).drew⟩ fun hS => ?_
                generalize w7.drew = W0 at hS ⊢
                refine wpAnyH_take (i := 0) (v := .pointer (some ⟨gm, 0, none⟩)) rfl (by kernel_rfl) (by kernel_rfl) (by kernel_rfl) (fun _ _ _ h => h) (Or.inl ⟨by rfl, fun w _ => by go_simp⟩) hS ?_
                try simp only [Act.put, nz0, nz1, nz2, nz3, nz4, nz5]
                refine wpAnyH_take (i := 1) (v := .pointer (some ⟨gm, 0, none⟩)) rfl (by kernel_rfl) (by kernel_rfl) (by kernel_rfl) (fun _ _ _ h => h) (Or.inl ⟨by rfl, fun w _ => by go_simp⟩) hS ?_
                try simp only [Act.put, nz0, nz1, nz2, nz3, nz4, nz5]
                refine wpAnyH_take (i := 2) (v := .pointer (some ⟨gm, 8, none⟩)) rfl (by kernel_rfl) (by kernel_rfl) (by kernel_rfl) (fun _ _ _ h => h) (Or.inl ⟨by rfl, fun w _ => by go_simp⟩) hS ?_
                try simp only [Act.put, nz0, nz1, nz2, nz3, nz4, nz5]
                refine wpAnyH_take (i := 3) (v := .int .u64 m.fin) rfl (by kernel_rfl) (by kernel_rfl) (by kernel_rfl) (fun _ _ _ h => h) (Or.inl ⟨by rfl, fun w h => by have c := row_at h.1 8 _ rfl; go_simp⟩) hS ?_
                try simp only [Act.put, nz0, nz1, nz2, nz3, nz4, nz5]
                refine wpAnyH_take (i := 4) (v := .int .u64 n3) rfl (by kernel_rfl) (by kernel_rfl) (by kernel_rfl) (fun _ _ _ h => h) (Or.inl ⟨by rfl, fun w _ => by go_simp⟩) hS ?_
                try simp only [Act.put, nz0, nz1, nz2, nz3, nz4, nz5]
                refine wpAnyH_take (i := 5) (v := .pointer (some ⟨gm, 0, none⟩)) rfl (by kernel_rfl) (by kernel_rfl) (by kernel_rfl) (fun _ _ _ h => h) (Or.inl ⟨by rfl, fun w _ => by go_simp⟩) hS ?_
                try simp only [Act.put, nz0, nz1, nz2, nz3, nz4, nz5]
                refine wpAnyH_take (i := 6) (v := .pointer (some ⟨gm, 0, none⟩)) rfl (by kernel_rfl) (by kernel_rfl) (by kernel_rfl) (fun _ _ _ h => h) (Or.inl ⟨by rfl, fun w _ => by go_simp⟩) hS ?_
                try simp only [Act.put, nz0, nz1, nz2, nz3, nz4, nz5]
                refine wpAnyH_take (i := 7) (v := .pointer (some ⟨gm, 8, none⟩)) rfl (by kernel_rfl) (by kernel_rfl) (by kernel_rfl) (fun _ _ _ h => h) (Or.inl ⟨by rfl, fun w _ => by go_simp⟩) hS ?_
                try simp only [Act.put, nz0, nz1, nz2, nz3, nz4, nz5]
                refine wpAnyH_take (i := 8) (v := .int .u64 m.fin) rfl (by kernel_rfl) (by kernel_rfl) (by kernel_rfl) (fun _ _ _ h => h) (Or.inl ⟨by rfl, fun w h => by have c := row_at h.1 8 _ rfl; go_simp⟩) hS ?_
                try simp only [Act.put, nz0, nz1, nz2, nz3, nz4, nz5]
                refine wpAnyH_take (i := 9) (v := .int .u64 nn) rfl (by kernel_rfl) (by kernel_rfl) (by kernel_rfl) (fun _ _ _ h => h) (Or.inl ⟨by rfl, fun w _ => by go_simp⟩) hS ?_
                try simp only [Act.put, nz0, nz1, nz2, nz3, nz4, nz5]
                refine wpAnyH_take (i := 10) (v := .int .u64 n7) rfl (by kernel_rfl) (by kernel_rfl) (by kernel_rfl) (fun _ _ _ h => h) (Or.inl ⟨by rfl, fun w _ => by go_simp⟩) hS ?_
                try simp only [Act.put, nz0, nz1, nz2, nz3, nz4, nz5]
                refine wpAnyH_take (i := 11) (v := .int .u64 nm) rfl (by kernel_rfl) (by kernel_rfl) (by kernel_rfl) (fun _ _ _ h => h) (Or.inl ⟨by rfl, fun w _ => by go_simp; exact hnm.out⟩) hS ?_
                try simp only [Act.put, nz0, nz1, nz2, nz3, nz4, nz5]
                refine wpAnyH_take (i := 12) (v := .int .u64 nv) rfl (by kernel_rfl) (by kernel_rfl) (by kernel_rfl) (fun _ _ _ h => h) (Or.inl ⟨by rfl, fun w _ => by go_simp⟩) hS ?_
                try simp only [Act.put, nz0, nz1, nz2, nz3, nz4, nz5]
                refine wpAnyH_take (i := 13) (v := .int .u64 nv) rfl (by kernel_rfl) (by kernel_rfl) (by kernel_rfl) (fun _ _ _ h => h) (Or.inl ⟨by rfl, fun w _ => by go_simp⟩) hS ?_
                try simp only [Act.put, nz0, nz1, nz2, nz3, nz4, nz5]
                refine wpAnyH_done (by kernel_rfl) ?_ _
                have hB9 := hB9.below hS.2
                clear hS qm
                go_upto_region 33 with (first
                  | (go_at_call 17; refine Calls.mono (HT1.out nv _ hB9) ?_; clear HT1; rintro e y1 ⟨rfl, t1⟩)
                  | (go_at_call 18; refine Calls.mono (HT2.out nv _ t1) ?_; clear HT2; rintro e y2 ⟨rfl, t2⟩)
                  | (go_at_call 19; refine Calls.mono (HT3.out nv _ t2) ?_; clear HT3; rintro e y3 ⟨rfl, t3⟩)
                  | (go_at_call 20; refine Calls.mono (HT4.out nv _ t3) ?_; clear HT4; rintro e y4 ⟨rfl, t4⟩))
                have hLP2 := HLPn.out nv _ t4
                clear HLPn t1 t2 t3 t4
                obtain ⟨l, d, M, m, R, N, hBS, hLR, hRel, hPI, hdn, hop, hM, hN⟩ := hLP2
                have HLPn : Hid (∀ wx, Below y4.heap.size y4 wx → LP w wx gl gd gm r (k + 1)) := fun wx hb => ⟨l, d, M, m, R, N, hBS.below hb, hLR, hRel, hPI, hdn, hop, hM, hN⟩
                have hfew := hPI.inv.few
                have hmb := hLR.len
                have hl7 := hPI.len
                have hsz := hPI.inv.size
                obtain ⟨vl, vs, L, vb, v1, v2, v3, h1, h2, h3, h4, h5, h6⟩ := hBS
                obtain ⟨ol, cl, hvl⟩ := h1.last.form
                obtain ⟨osl, csl, hvs⟩ := h1.sld.form
                have hlr := h1.row
                rw [hvl, hvs] at hlr
                have HE1 : Hid (∀ wx, Below y4.heap.size y4 wx → Calls Try.prog 23 #[.pointer (some ⟨gl, 0, none⟩)] wx fun e w' => e = .returned (.int .u64 m.fin) ∧ Below wx.heap.size wx w') := fun wx hb => by rw [hLR.fin]; exact end_any gl _ _ _ l wx (h1.row.below hb h1.row.lt)
                have HE2 : Hid (∀ wx, Below y4.heap.size y4 wx → Calls Try.prog 24 #[.pointer (some ⟨gl, 0, none⟩)] wx fun e w' => e = .returned (.int .u64 m.dur) ∧ Below wx.heap.size wx w') := fun wx hb => by rw [hLR.dur]; exact dur_any gl _ _ _ l wx (h1.row.below hb h1.row.lt)
                have HE3 : Hid (∀ wx, Below y4.heap.size y4 wx → Calls Try.prog 25 #[.pointer (some ⟨gl, 0, none⟩)] wx fun e w' => e = .returned (.int .i64 (freeM m)) ∧ Below wx.heap.size wx w') := fun wx hb => by
                  rw [← hLR.free hPI.inv.op]
                  exact LD.free' (h1.below hb) hPI.inv
                have HE4 : Hid (∀ wx, Below y4.heap.size y4 wx → Calls Try.prog 26 #[.pointer (some ⟨gm, 0, none⟩)] wx fun e w' => e = .returned (.int .i64 (freeM m)) ∧ Below wx.heap.size wx w') := fun wx hb => rfree' (h2.off (Off.of_below (F := fun _ => False) hb) (fun _ _ q => q)) (by omega) (by rw [hLR.sz]; omega)
                have HE5 : Hid (∀ wx, Below y4.heap.size y4 wx → Calls Try.prog 27 #[.pointer (some ⟨gl, 0, none⟩)] wx fun e w' => e = .returned (.int .u32 m.first) ∧ Below wx.heap.size wx w') := fun wx hb => by
                  rw [← hLR.tail]
                  exact LD.tail' (h1.below hb) hPI.inv
                have HE6 : Hid (∀ wx, Below y4.heap.size y4 wx → Calls Try.prog 28 #[.pointer (some ⟨gd, 0, none⟩)] wx fun e w' => e = .returned (.int .i64 R.ops) ∧ Below wx.heap.size wx w') := fun wx hb => by
                  rw [hRel.ops]
                  exact (ops_any (h1.dsk.below hb)).mono (fun e w' h => ⟨h.1, by rw [h.2]; exact Below.refl _ _⟩)
                have qm := h2.row
                have qr := h2.dsk.row
                unfold rlcells at qm
                unfold rdcells at qr
                generalize freeM m = FR at HE3 HE4
                clear h1 h2 h3 h4 h5 h6 hlr hLR hRel hPI
                refine wp_region_held_drew (S := fun w' => Row w' gm #[.pointer (some ⟨r, 0, none⟩), .int .i64 m.at_, .int .i64 m.size, .int .u32 m.ep, .int .u32 m.first, vb, .int .i64 m.lasting, .string m.open_, .int .u64 m.fin, .int .u64 m.dur, .bool m.old] 49 ∧ Row w' r #[.int .i64 R.n, v1, v2, v3, .int .i64 R.fuse, .int .i64 R.ops, .bool R.down] 32 ∧ Below y4.heap.size y4 w') (by kernel_rfl) ⟨qm, qr, (Below.refl y4.heap.size y4).drew⟩ fun hS => ?_
                generalize y4.drew = W0 at hS ⊢
                refine wpAnyH_take (i := 0) (v := .pointer (some ⟨gl, 0, none⟩)) rfl (by kernel_rfl) (by kernel_rfl) (by kernel_rfl) (fun _ _ _ h => h) (Or.inl ⟨by rfl, fun w _ => by go_simp⟩) hS ?_
                try simp only [Act.put, nz0, nz1, nz2, nz3, nz4, nz5]
                refine wpAnyH_take (i := 2) (v := .pointer (some ⟨gm, 0, none⟩)) rfl (by kernel_rfl) (by kernel_rfl) (by kernel_rfl) (fun _ _ _ h => h) (Or.inl ⟨by rfl, fun w _ => by go_simp⟩) hS ?_
                try simp only [Act.put, nz0, nz1, nz2, nz3, nz4, nz5]
                refine wpAnyH_take (i := 3) (v := .pointer (some ⟨gm, 0, none⟩)) rfl (by kernel_rfl) (by kernel_rfl) (by kernel_rfl) (fun _ _ _ h => h) (Or.inl ⟨by rfl, fun w _ => by go_simp⟩) hS ?_
                try simp only [Act.put, nz0, nz1, nz2, nz3, nz4, nz5]
                refine wpAnyH_take (i := 4) (v := .pointer (some ⟨gm, 8, none⟩)) rfl (by kernel_rfl) (by kernel_rfl) (by kernel_rfl) (fun _ _ _ h => h) (Or.inl ⟨by rfl, fun w _ => by go_simp⟩) hS ?_
                try simp only [Act.put, nz0, nz1, nz2, nz3, nz4, nz5]
                refine wpAnyH_take (i := 5) (v := .int .u64 m.fin) rfl (by kernel_rfl) (by kernel_rfl) (by kernel_rfl) (fun _ _ _ h => h) (Or.inl ⟨by rfl, fun w h => by have c := row_at h.1 8 _ rfl; go_simp⟩) hS ?_
                try simp only [Act.put, nz0, nz1, nz2, nz3, nz4, nz5]
                refine wpAnyH_ready (rs := [1]) (by kernel_rfl) (by simp) ?_
                refine AllReadyH.cons rfl (fun K hK => ?_) AllReadyH.nil
                go_simp
                go_at_call 23
                refine Calls.mono (HE1.out _ hS.2.2) ?_
                rintro e w1_1 ⟨rfl, hcb⟩
                refine hK.out _ _ (⟨hS.1.below hcb hS.1.lt, hS.2.1.below hcb hS.2.1.lt, hS.2.2.trans (hcb.mono hS.2.2.size)⟩) fun hS => ?_
                try simp only [Act.put, nz0, nz1, nz2, nz3, nz4, nz5]
                clear hcb
                refine wpAnyH_take (i := 6) (v := .bool false) rfl (by kernel_rfl) (by kernel_rfl) (by kernel_rfl) (fun _ _ _ h => h) (Or.inl ⟨by rfl, fun w _ => by go_simp⟩) hS ?_
                try simp only [Act.put, nz0, nz1, nz2, nz3, nz4, nz5]
                refine wpAnyH_take (i := 7) (v := .bool false) rfl (by kernel_rfl) (by kernel_rfl) (by kernel_rfl) (fun _ _ _ h => h) (Or.inl ⟨by rfl, fun w _ => by go_simp⟩) hS ?_
                try simp only [Act.put, nz0, nz1, nz2, nz3, nz4, nz5]
                refine wpAnyH_take (i := 8) (v := .pointer (some ⟨gl, 0, none⟩)) rfl (by kernel_rfl) (by kernel_rfl) (by kernel_rfl) (fun _ _ _ h => h) (Or.inl ⟨by rfl, fun w _ => by go_simp⟩) hS ?_
                try simp only [Act.put, nz0, nz1, nz2, nz3, nz4, nz5]
                refine wpAnyH_take (i := 10) (v := .pointer (some ⟨gm, 0, none⟩)) rfl (by kernel_rfl) (by kernel_rfl) (by kernel_rfl) (fun _ _ _ h => h) (Or.inl ⟨by rfl, fun w _ => by go_simp⟩) hS ?_
                try simp only [Act.put, nz0, nz1, nz2, nz3, nz4, nz5]
                refine wpAnyH_take (i := 11) (v := .pointer (some ⟨gm, 0, none⟩)) rfl (by kernel_rfl) (by kernel_rfl) (by kernel_rfl) (fun _ _ _ h => h) (Or.inl ⟨by rfl, fun w _ => by go_simp⟩) hS ?_
                try simp only [Act.put, nz0, nz1, nz2, nz3, nz4, nz5]
                refine wpAnyH_take (i := 12) (v := .pointer (some ⟨gm, 9, none⟩)) rfl (by kernel_rfl) (by kernel_rfl) (by kernel_rfl) (fun _ _ _ h => h) (Or.inl ⟨by rfl, fun w _ => by go_simp⟩) hS ?_
                try simp only [Act.put, nz0, nz1, nz2, nz3, nz4, nz5]
                refine wpAnyH_take (i := 13) (v := .int .u64 m.dur) rfl (by kernel_rfl) (by kernel_rfl) (by kernel_rfl) (fun _ _ _ h => h) (Or.inl ⟨by rfl, fun w h => by have c := row_at h.1 9 _ rfl; go_simp⟩) hS ?_
                try simp only [Act.put, nz0, nz1, nz2, nz3, nz4, nz5]
                refine wpAnyH_ready (rs := [9]) (by kernel_rfl) (by simp) ?_
                refine AllReadyH.cons rfl (fun K hK => ?_) AllReadyH.nil
                go_simp
                go_at_call 24
                refine Calls.mono (HE2.out _ hS.2.2) ?_
                rintro e w2_9 ⟨rfl, hcb⟩
                refine hK.out _ _ (⟨hS.1.below hcb hS.1.lt, hS.2.1.below hcb hS.2.1.lt, hS.2.2.trans (hcb.mono hS.2.2.size)⟩) fun hS => ?_
                try simp only [Act.put, nz0, nz1, nz2, nz3, nz4, nz5]
                clear hcb
                refine wpAnyH_take (i := 14) (v := .bool false) rfl (by kernel_rfl) (by kernel_rfl) (by kernel_rfl) (fun _ _ _ h => h) (Or.inl ⟨by rfl, fun w _ => by go_simp⟩) hS ?_
                try simp only [Act.put, nz0, nz1, nz2, nz3, nz4, nz5]
                refine wpAnyH_take (i := 15) (v := .bool false) rfl (by kernel_rfl) (by kernel_rfl) (by kernel_rfl) (fun _ _ _ h => h) (Or.inl ⟨by rfl, fun w _ => by go_simp⟩) hS ?_
                try simp only [Act.put, nz0, nz1, nz2, nz3, nz4, nz5]
                refine wpAnyH_take (i := 16) (v := .bool false) rfl (by kernel_rfl) (by kernel_rfl) (by kernel_rfl) (fun _ _ _ h => h) (Or.inl ⟨by rfl, fun w _ => by go_simp⟩) hS ?_
                try simp only [Act.put, nz0, nz1, nz2, nz3, nz4, nz5]
                refine wpAnyH_take (i := 17) (v := .pointer (some ⟨gl, 0, none⟩)) rfl (by kernel_rfl) (by kernel_rfl) (by kernel_rfl) (fun _ _ _ h => h) (Or.inl ⟨by rfl, fun w _ => by go_simp⟩) hS ?_
                try simp only [Act.put, nz0, nz1, nz2, nz3, nz4, nz5]
                refine wpAnyH_take (i := 19) (v := .pointer (some ⟨gm, 0, none⟩)) rfl (by kernel_rfl) (by kernel_rfl) (by kernel_rfl) (fun _ _ _ h => h) (Or.inl ⟨by rfl, fun w _ => by go_simp⟩) hS ?_
                try simp only [Act.put, nz0, nz1, nz2, nz3, nz4, nz5]
                refine wpAnyH_ready (rs := [18]) (by kernel_rfl) (by simp) ?_
                refine AllReadyH.cons rfl (fun K hK => ?_) AllReadyH.nil
                go_simp
                go_at_call 25
                refine Calls.mono (HE3.out _ hS.2.2) ?_
                rintro e w3_18 ⟨rfl, hcb⟩
                refine hK.out _ _ (⟨hS.1.below hcb hS.1.lt, hS.2.1.below hcb hS.2.1.lt, hS.2.2.trans (hcb.mono hS.2.2.size)⟩) fun hS => ?_
                try simp only [Act.put, nz0, nz1, nz2, nz3, nz4, nz5]
                clear hcb
                refine wpAnyH_ready (rs := [20]) (by kernel_rfl) (by simp) ?_
                refine AllReadyH.cons rfl (fun K hK => ?_) AllReadyH.nil
                go_simp
                go_at_call 26
                refine Calls.mono (HE4.out _ hS.2.2) ?_
                rintro e w4_20 ⟨rfl, hcb⟩
                refine hK.out _ _ (⟨hS.1.below hcb hS.1.lt, hS.2.1.below hcb hS.2.1.lt, hS.2.2.trans (hcb.mono hS.2.2.size)⟩) fun hS => ?_
                try simp only [Act.put, nz0, nz1, nz2, nz3, nz4, nz5]
                clear hcb
                refine wpAnyH_take (i := 21) (v := .bool false) rfl (by kernel_rfl) (by kernel_rfl) (by kernel_rfl) (fun _ _ _ h => h) (Or.inl ⟨by rfl, fun w _ => by go_simp⟩) hS ?_
                try simp only [Act.put, nz0, nz1, nz2, nz3, nz4, nz5]
                refine wpAnyH_take (i := 22) (v := .bool false) rfl (by kernel_rfl) (by kernel_rfl) (by kernel_rfl) (fun _ _ _ h => h) (Or.inl ⟨by rfl, fun w _ => by go_simp⟩) hS ?_
                try simp only [Act.put, nz0, nz1, nz2, nz3, nz4, nz5]
                refine wpAnyH_take (i := 23) (v := .bool false) rfl (by kernel_rfl) (by kernel_rfl) (by kernel_rfl) (fun _ _ _ h => h) (Or.inl ⟨by rfl, fun w _ => by go_simp⟩) hS ?_
                try simp only [Act.put, nz0, nz1, nz2, nz3, nz4, nz5]
                refine wpAnyH_take (i := 24) (v := .pointer (some ⟨gl, 0, none⟩)) rfl (by kernel_rfl) (by kernel_rfl) (by kernel_rfl) (fun _ _ _ h => h) (Or.inl ⟨by rfl, fun w _ => by go_simp⟩) hS ?_
                try simp only [Act.put, nz0, nz1, nz2, nz3, nz4, nz5]
                refine wpAnyH_take (i := 26) (v := .pointer (some ⟨gm, 0, none⟩)) rfl (by kernel_rfl) (by kernel_rfl) (by kernel_rfl) (fun _ _ _ h => h) (Or.inl ⟨by rfl, fun w _ => by go_simp⟩) hS ?_
                try simp only [Act.put, nz0, nz1, nz2, nz3, nz4, nz5]
                refine wpAnyH_take (i := 27) (v := .pointer (some ⟨gm, 0, none⟩)) rfl (by kernel_rfl) (by kernel_rfl) (by kernel_rfl) (fun _ _ _ h => h) (Or.inl ⟨by rfl, fun w _ => by go_simp⟩) hS ?_
                try simp only [Act.put, nz0, nz1, nz2, nz3, nz4, nz5]
                refine wpAnyH_take (i := 28) (v := .pointer (some ⟨gm, 4, none⟩)) rfl (by kernel_rfl) (by kernel_rfl) (by kernel_rfl) (fun _ _ _ h => h) (Or.inl ⟨by rfl, fun w _ => by go_simp⟩) hS ?_
                try simp only [Act.put, nz0, nz1, nz2, nz3, nz4, nz5]
                refine wpAnyH_take (i := 29) (v := .int .u32 m.first) rfl (by kernel_rfl) (by kernel_rfl) (by kernel_rfl) (fun _ _ _ h => h) (Or.inl ⟨by rfl, fun w h => by have c := row_at h.1 4 _ rfl; go_simp⟩) hS ?_
                try simp only [Act.put, nz0, nz1, nz2, nz3, nz4, nz5]
                refine wpAnyH_ready (rs := [25]) (by kernel_rfl) (by simp) ?_
                refine AllReadyH.cons rfl (fun K hK => ?_) AllReadyH.nil
                go_simp
                go_at_call 27
                refine Calls.mono (HE5.out _ hS.2.2) ?_
                rintro e w5_25 ⟨rfl, hcb⟩
                refine hK.out _ _ (⟨hS.1.below hcb hS.1.lt, hS.2.1.below hcb hS.2.1.lt, hS.2.2.trans (hcb.mono hS.2.2.size)⟩) fun hS => ?_
                try simp only [Act.put, nz0, nz1, nz2, nz3, nz4, nz5]
                clear hcb
                refine wpAnyH_take (i := 30) (v := .bool false) rfl (by kernel_rfl) (by kernel_rfl) (by kernel_rfl) (fun _ _ _ h => h) (Or.inl ⟨by rfl, fun w _ => by go_simp⟩) hS ?_
                try simp only [Act.put, nz0, nz1, nz2, nz3, nz4, nz5]
                refine wpAnyH_take (i := 31) (v := .bool false) rfl (by kernel_rfl) (by kernel_rfl) (by kernel_rfl) (fun _ _ _ h => h) (Or.inl ⟨by rfl, fun w _ => by go_simp⟩) hS ?_
                try simp only [Act.put, nz0, nz1, nz2, nz3, nz4, nz5]
                refine wpAnyH_take (i := 32) (v := .bool false) rfl (by kernel_rfl) (by kernel_rfl) (by kernel_rfl) (fun _ _ _ h => h) (Or.inl ⟨by rfl, fun w _ => by go_simp⟩) hS ?_
                try simp only [Act.put, nz0, nz1, nz2, nz3, nz4, nz5]
                refine wpAnyH_take (i := 33) (v := .pointer (some ⟨gd, 0, none⟩)) rfl (by kernel_rfl) (by kernel_rfl) (by kernel_rfl) (fun _ _ _ h => h) (Or.inl ⟨by rfl, fun w _ => by go_simp⟩) hS ?_
                try simp only [Act.put, nz0, nz1, nz2, nz3, nz4, nz5]
                refine wpAnyH_take (i := 35) (v := .pointer (some ⟨r, 0, none⟩)) rfl (by kernel_rfl) (by kernel_rfl) (by kernel_rfl) (fun _ _ _ h => h) (Or.inl ⟨by rfl, fun w _ => by go_simp⟩) hS ?_
                try simp only [Act.put, nz0, nz1, nz2, nz3, nz4, nz5]
                refine wpAnyH_take (i := 36) (v := .pointer (some ⟨r, 0, none⟩)) rfl (by kernel_rfl) (by kernel_rfl) (by kernel_rfl) (fun _ _ _ h => h) (Or.inl ⟨by rfl, fun w _ => by go_simp⟩) hS ?_
                try simp only [Act.put, nz0, nz1, nz2, nz3, nz4, nz5]
                refine wpAnyH_take (i := 37) (v := .pointer (some ⟨r, 5, none⟩)) rfl (by kernel_rfl) (by kernel_rfl) (by kernel_rfl) (fun _ _ _ h => h) (Or.inl ⟨by rfl, fun w _ => by go_simp⟩) hS ?_
                try simp only [Act.put, nz0, nz1, nz2, nz3, nz4, nz5]
                refine wpAnyH_take (i := 38) (v := .int .i64 R.ops) rfl (by kernel_rfl) (by kernel_rfl) (by kernel_rfl) (fun _ _ _ h => h) (Or.inl ⟨by rfl, fun w h => by have c := row_at h.2.1 5 _ rfl; go_simp⟩) hS ?_
                try simp only [Act.put, nz0, nz1, nz2, nz3, nz4, nz5]
                refine wpAnyH_ready (rs := [34]) (by kernel_rfl) (by simp) ?_
                refine AllReadyH.cons rfl (fun K hK => ?_) AllReadyH.nil
                go_simp
                go_at_call 28
                refine Calls.mono (HE6.out _ hS.2.2) ?_
                rintro e w6_34 ⟨rfl, hcb⟩
                refine hK.out _ _ (⟨hS.1.below hcb hS.1.lt, hS.2.1.below hcb hS.2.1.lt, hS.2.2.trans (hcb.mono hS.2.2.size)⟩) fun hS => ?_
                try simp only [Act.put, nz0, nz1, nz2, nz3, nz4, nz5]
                clear hcb
                refine wpAnyH_take (i := 39) (v := .bool false) rfl (by kernel_rfl) (by kernel_rfl) (by kernel_rfl) (fun _ _ _ h => h) (Or.inl ⟨by rfl, fun w _ => by go_simp⟩) hS ?_
                try simp only [Act.put, nz0, nz1, nz2, nz3, nz4, nz5]
                refine wpAnyH_take (i := 40) (v := .bool false) rfl (by kernel_rfl) (by kernel_rfl) (by kernel_rfl) (fun _ _ _ h => h) (Or.inl ⟨by rfl, fun w _ => by go_simp⟩) hS ?_
                try simp only [Act.put, nz0, nz1, nz2, nz3, nz4, nz5]
                refine wpAnyH_done (by kernel_rfl) ?_ _
                go_wp2
                go_roundw
                case rel => exact ⟨k + 1, by omega, by go_num, HLPn.out _ hS.2.2⟩
                case measure => simp [intOf]; omega
              · have hev' : ¬ nn.tmod 2 = 0 := hev
                go_upto_region 33 with (first
                  | (go_at_call 17; refine Calls.mono (HT1.out nn _ hB9) ?_; clear HT1; rintro e y1 ⟨rfl, t1⟩)
                  | (go_at_call 18; refine Calls.mono (HT2.out nn _ t1) ?_; clear HT2; rintro e y2 ⟨rfl, t2⟩)
                  | (go_at_call 19; refine Calls.mono (HT3.out nn _ t2) ?_; clear HT3; rintro e y3 ⟨rfl, t3⟩)
                  | (go_at_call 20; refine Calls.mono (HT4.out nn _ t3) ?_; clear HT4; rintro e y4 ⟨rfl, t4⟩))
                have hLP2 := HLPn.out nn _ t4
                clear HLPn t1 t2 t3 t4
                obtain ⟨l, d, M, m, R, N, hBS, hLR, hRel, hPI, hdn, hop, hM, hN⟩ := hLP2
                have HLPn : Hid (∀ wx, Below y4.heap.size y4 wx → LP w wx gl gd gm r (k + 1)) := fun wx hb => ⟨l, d, M, m, R, N, hBS.below hb, hLR, hRel, hPI, hdn, hop, hM, hN⟩
                have hfew := hPI.inv.few
                have hmb := hLR.len
                have hl7 := hPI.len
                have hsz := hPI.inv.size
                obtain ⟨vl, vs, L, vb, v1, v2, v3, h1, h2, h3, h4, h5, h6⟩ := hBS
                obtain ⟨ol, cl, hvl⟩ := h1.last.form
                obtain ⟨osl, csl, hvs⟩ := h1.sld.form
                have hlr := h1.row
                rw [hvl, hvs] at hlr
                have HE1 : Hid (∀ wx, Below y4.heap.size y4 wx → Calls Try.prog 23 #[.pointer (some ⟨gl, 0, none⟩)] wx fun e w' => e = .returned (.int .u64 m.fin) ∧ Below wx.heap.size wx w') := fun wx hb => by rw [hLR.fin]; exact end_any gl _ _ _ l wx (h1.row.below hb h1.row.lt)
                have HE2 : Hid (∀ wx, Below y4.heap.size y4 wx → Calls Try.prog 24 #[.pointer (some ⟨gl, 0, none⟩)] wx fun e w' => e = .returned (.int .u64 m.dur) ∧ Below wx.heap.size wx w') := fun wx hb => by rw [hLR.dur]; exact dur_any gl _ _ _ l wx (h1.row.below hb h1.row.lt)
                have HE3 : Hid (∀ wx, Below y4.heap.size y4 wx → Calls Try.prog 25 #[.pointer (some ⟨gl, 0, none⟩)] wx fun e w' => e = .returned (.int .i64 (freeM m)) ∧ Below wx.heap.size wx w') := fun wx hb => by
                  rw [← hLR.free hPI.inv.op]
                  exact LD.free' (h1.below hb) hPI.inv
                have HE4 : Hid (∀ wx, Below y4.heap.size y4 wx → Calls Try.prog 26 #[.pointer (some ⟨gm, 0, none⟩)] wx fun e w' => e = .returned (.int .i64 (freeM m)) ∧ Below wx.heap.size wx w') := fun wx hb => rfree' (h2.off (Off.of_below (F := fun _ => False) hb) (fun _ _ q => q)) (by omega) (by rw [hLR.sz]; omega)
                have HE5 : Hid (∀ wx, Below y4.heap.size y4 wx → Calls Try.prog 27 #[.pointer (some ⟨gl, 0, none⟩)] wx fun e w' => e = .returned (.int .u32 m.first) ∧ Below wx.heap.size wx w') := fun wx hb => by
                  rw [← hLR.tail]
                  exact LD.tail' (h1.below hb) hPI.inv
                have HE6 : Hid (∀ wx, Below y4.heap.size y4 wx → Calls Try.prog 28 #[.pointer (some ⟨gd, 0, none⟩)] wx fun e w' => e = .returned (.int .i64 R.ops) ∧ Below wx.heap.size wx w') := fun wx hb => by
                  rw [hRel.ops]
                  exact (ops_any (h1.dsk.below hb)).mono (fun e w' h => ⟨h.1, by rw [h.2]; exact Below.refl _ _⟩)
                have qm := h2.row
                have qr := h2.dsk.row
                unfold rlcells at qm
                unfold rdcells at qr
                generalize freeM m = FR at HE3 HE4
                clear h1 h2 h3 h4 h5 h6 hlr hLR hRel hPI
                refine wp_region_held_drew (S := fun w' => Row w' gm #[.pointer (some ⟨r, 0, none⟩), .int .i64 m.at_, .int .i64 m.size, .int .u32 m.ep, .int .u32 m.first, vb, .int .i64 m.lasting, .string m.open_, .int .u64 m.fin, .int .u64 m.dur, .bool m.old] 49 ∧ Row w' r #[.int .i64 R.n, v1, v2, v3, .int .i64 R.fuse, .int .i64 R.ops, .bool R.down] 32 ∧ Below y4.heap.size y4 w') (by kernel_rfl) ⟨qm, qr, (Below.refl y4.heap.size y4).drew⟩ fun hS => ?_
                generalize y4.drew = W0 at hS ⊢
                refine wpAnyH_take (i := 0) (v := .pointer (some ⟨gl, 0, none⟩)) rfl (by kernel_rfl) (by kernel_rfl) (by kernel_rfl) (fun _ _ _ h => h) (Or.inl ⟨by rfl, fun w _ => by go_simp⟩) hS ?_
                try simp only [Act.put, nz0, nz1, nz2, nz3, nz4, nz5]
                refine wpAnyH_take (i := 2) (v := .pointer (some ⟨gm, 0, none⟩)) rfl (by kernel_rfl) (by kernel_rfl) (by kernel_rfl) (fun _ _ _ h => h) (Or.inl ⟨by rfl, fun w _ => by go_simp⟩) hS ?_
                try simp only [Act.put, nz0, nz1, nz2, nz3, nz4, nz5]
                refine wpAnyH_take (i := 3) (v := .pointer (some ⟨gm, 0, none⟩)) rfl (by kernel_rfl) (by kernel_rfl) (by kernel_rfl) (fun _ _ _ h => h) (Or.inl ⟨by rfl, fun w _ => by go_simp⟩) hS ?_
                try simp only [Act.put, nz0, nz1, nz2, nz3, nz4, nz5]
                refine wpAnyH_take (i := 4) (v := .pointer (some ⟨gm, 8, none⟩)) rfl (by kernel_rfl) (by kernel_rfl) (by kernel_rfl) (fun _ _ _ h => h) (Or.inl ⟨by rfl, fun w _ => by go_simp⟩) hS ?_
                try simp only [Act.put, nz0, nz1, nz2, nz3, nz4, nz5]
                refine wpAnyH_take (i := 5) (v := .int .u64 m.fin) rfl (by kernel_rfl) (by kernel_rfl) (by kernel_rfl) (fun _ _ _ h => h) (Or.inl ⟨by rfl, fun w h => by have c := row_at h.1 8 _ rfl; go_simp⟩) hS ?_
                try simp only [Act.put, nz0, nz1, nz2, nz3, nz4, nz5]
                refine wpAnyH_ready (rs := [1]) (by kernel_rfl) (by simp) ?_
                refine AllReadyH.cons rfl (fun K hK => ?_) AllReadyH.nil
                go_simp
                go_at_call 23
                refine Calls.mono (HE1.out _ hS.2.2) ?_
                rintro e w1_1 ⟨rfl, hcb⟩
                refine hK.out _ _ (⟨hS.1.below hcb hS.1.lt, hS.2.1.below hcb hS.2.1.lt, hS.2.2.trans (hcb.mono hS.2.2.size)⟩) fun hS => ?_
                try simp only [Act.put, nz0, nz1, nz2, nz3, nz4, nz5]
                clear hcb
                refine wpAnyH_take (i := 6) (v := .bool false) rfl (by kernel_rfl) (by kernel_rfl) (by kernel_rfl) (fun _ _ _ h => h) (Or.inl ⟨by rfl, fun w _ => by go_simp⟩) hS ?_
                try simp only [Act.put, nz0, nz1, nz2, nz3, nz4, nz5]
                refine wpAnyH_take (i := 7) (v := .bool false) rfl (by kernel_rfl) (by kernel_rfl) (by kernel_rfl) (fun _ _ _ h => h) (Or.inl ⟨by rfl, fun w _ => by go_simp⟩) hS ?_
                try simp only [Act.put, nz0, nz1, nz2, nz3, nz4, nz5]
                refine wpAnyH_take (i := 8) (v := .pointer (some ⟨gl, 0, none⟩)) rfl (by kernel_rfl) (by kernel_rfl) (by kernel_rfl) (fun _ _ _ h => h) (Or.inl ⟨by rfl, fun w _ => by go_simp⟩) hS ?_
                try simp only [Act.put, nz0, nz1, nz2, nz3, nz4, nz5]
                refine wpAnyH_take (i := 10) (v := .pointer (some ⟨gm, 0, none⟩)) rfl (by kernel_rfl) (by kernel_rfl) (by kernel_rfl) (fun _ _ _ h => h) (Or.inl ⟨by rfl, fun w _ => by go_simp⟩) hS ?_
                try simp only [Act.put, nz0, nz1, nz2, nz3, nz4, nz5]
                refine wpAnyH_take (i := 11) (v := .pointer (some ⟨gm, 0, none⟩)) rfl (by kernel_rfl) (by kernel_rfl) (by kernel_rfl) (fun _ _ _ h => h) (Or.inl ⟨by rfl, fun w _ => by go_simp⟩) hS ?_
                try simp only [Act.put, nz0, nz1, nz2, nz3, nz4, nz5]
                refine wpAnyH_take (i := 12) (v := .pointer (some ⟨gm, 9, none⟩)) rfl (by kernel_rfl) (by kernel_rfl) (by kernel_rfl) (fun _ _ _ h => h) (Or.inl ⟨by rfl, fun w _ => by go_simp⟩) hS ?_
                try simp only [Act.put, nz0, nz1, nz2, nz3, nz4, nz5]
                refine wpAnyH_take (i := 13) (v := .int .u64 m.dur) rfl (by kernel_rfl) (by kernel_rfl) (by kernel_rfl) (fun _ _ _ h => h) (Or.inl ⟨by rfl, fun w h => by have c := row_at h.1 9 _ rfl; go_simp⟩) hS ?_
                try simp only [Act.put, nz0, nz1, nz2, nz3, nz4, nz5]
                refine wpAnyH_ready (rs := [9]) (by kernel_rfl) (by simp) ?_
                refine AllReadyH.cons rfl (fun K hK => ?_) AllReadyH.nil
                go_simp
                go_at_call 24
                refine Calls.mono (HE2.out _ hS.2.2) ?_
                rintro e w2_9 ⟨rfl, hcb⟩
                refine hK.out _ _ (⟨hS.1.below hcb hS.1.lt, hS.2.1.below hcb hS.2.1.lt, hS.2.2.trans (hcb.mono hS.2.2.size)⟩) fun hS => ?_
                try simp only [Act.put, nz0, nz1, nz2, nz3, nz4, nz5]
                clear hcb
                refine wpAnyH_take (i := 14) (v := .bool false) rfl (by kernel_rfl) (by kernel_rfl) (by kernel_rfl) (fun _ _ _ h => h) (Or.inl ⟨by rfl, fun w _ => by go_simp⟩) hS ?_
                try simp only [Act.put, nz0, nz1, nz2, nz3, nz4, nz5]
                refine wpAnyH_take (i := 15) (v := .bool false) rfl (by kernel_rfl) (by kernel_rfl) (by kernel_rfl) (fun _ _ _ h => h) (Or.inl ⟨by rfl, fun w _ => by go_simp⟩) hS ?_
                try simp only [Act.put, nz0, nz1, nz2, nz3, nz4, nz5]
                refine wpAnyH_take (i := 16) (v := .bool false) rfl (by kernel_rfl) (by kernel_rfl) (by kernel_rfl) (fun _ _ _ h => h) (Or.inl ⟨by rfl, fun w _ => by go_simp⟩) hS ?_
                try simp only [Act.put, nz0, nz1, nz2, nz3, nz4, nz5]
                refine wpAnyH_take (i := 17) (v := .pointer (some ⟨gl, 0, none⟩)) rfl (by kernel_rfl) (by kernel_rfl) (by kernel_rfl) (fun _ _ _ h => h) (Or.inl ⟨by rfl, fun w _ => by go_simp⟩) hS ?_
                try simp only [Act.put, nz0, nz1, nz2, nz3, nz4, nz5]
                refine wpAnyH_take (i := 19) (v := .pointer (some ⟨gm, 0, none⟩)) rfl (by kernel_rfl) (by kernel_rfl) (by kernel_rfl) (fun _ _ _ h => h) (Or.inl ⟨by rfl, fun w _ => by go_simp⟩) hS ?_
                try simp only [Act.put, nz0, nz1, nz2, nz3, nz4, nz5]
                refine wpAnyH_ready (rs := [18]) (by kernel_rfl) (by simp) ?_
                refine AllReadyH.cons rfl (fun K hK => ?_) AllReadyH.nil
                go_simp
                go_at_call 25
                refine Calls.mono (HE3.out _ hS.2.2) ?_
                rintro e w3_18 ⟨rfl, hcb⟩
                refine hK.out _ _ (⟨hS.1.below hcb hS.1.lt, hS.2.1.below hcb hS.2.1.lt, hS.2.2.trans (hcb.mono hS.2.2.size)⟩) fun hS => ?_
                try simp only [Act.put, nz0, nz1, nz2, nz3, nz4, nz5]
                clear hcb
                refine wpAnyH_ready (rs := [20]) (by kernel_rfl) (by simp) ?_
                refine AllReadyH.cons rfl (fun K hK => ?_) AllReadyH.nil
                go_simp
                go_at_call 26
                refine Calls.mono (HE4.out _ hS.2.2) ?_
                rintro e w4_20 ⟨rfl, hcb⟩
                refine hK.out _ _ (⟨hS.1.below hcb hS.1.lt, hS.2.1.below hcb hS.2.1.lt, hS.2.2.trans (hcb.mono hS.2.2.size)⟩) fun hS => ?_
                try simp only [Act.put, nz0, nz1, nz2, nz3, nz4, nz5]
                clear hcb
                refine wpAnyH_take (i := 21) (v := .bool false) rfl (by kernel_rfl) (by kernel_rfl) (by kernel_rfl) (fun _ _ _ h => h) (Or.inl ⟨by rfl, fun w _ => by go_simp⟩) hS ?_
                try simp only [Act.put, nz0, nz1, nz2, nz3, nz4, nz5]
                refine wpAnyH_take (i := 22) (v := .bool false) rfl (by kernel_rfl) (by kernel_rfl) (by kernel_rfl) (fun _ _ _ h => h) (Or.inl ⟨by rfl, fun w _ => by go_simp⟩) hS ?_
                try simp only [Act.put, nz0, nz1, nz2, nz3, nz4, nz5]
                refine wpAnyH_take (i := 23) (v := .bool false) rfl (by kernel_rfl) (by kernel_rfl) (by kernel_rfl) (fun _ _ _ h => h) (Or.inl ⟨by rfl, fun w _ => by go_simp⟩) hS ?_
                try simp only [Act.put, nz0, nz1, nz2, nz3, nz4, nz5]
                refine wpAnyH_take (i := 24) (v := .pointer (some ⟨gl, 0, none⟩)) rfl (by kernel_rfl) (by kernel_rfl) (by kernel_rfl) (fun _ _ _ h => h) (Or.inl ⟨by rfl, fun w _ => by go_simp⟩) hS ?_
                try simp only [Act.put, nz0, nz1, nz2, nz3, nz4, nz5]
                refine wpAnyH_take (i := 26) (v := .pointer (some ⟨gm, 0, none⟩)) rfl (by kernel_rfl) (by kernel_rfl) (by kernel_rfl) (fun _ _ _ h => h) (Or.inl ⟨by rfl, fun w _ => by go_simp⟩) hS ?_
                try simp only [Act.put, nz0, nz1, nz2, nz3, nz4, nz5]
                refine wpAnyH_take (i := 27) (v := .pointer (some ⟨gm, 0, none⟩)) rfl (by kernel_rfl) (by kernel_rfl) (by kernel_rfl) (fun _ _ _ h => h) (Or.inl ⟨by rfl, fun w _ => by go_simp⟩) hS ?_
                try simp only [Act.put, nz0, nz1, nz2, nz3, nz4, nz5]
                refine wpAnyH_take (i := 28) (v := .pointer (some ⟨gm, 4, none⟩)) rfl (by kernel_rfl) (by kernel_rfl) (by kernel_rfl) (fun _ _ _ h => h) (Or.inl ⟨by rfl, fun w _ => by go_simp⟩) hS ?_
                try simp only [Act.put, nz0, nz1, nz2, nz3, nz4, nz5]
                refine wpAnyH_take (i := 29) (v := .int .u32 m.first) rfl (by kernel_rfl) (by kernel_rfl) (by kernel_rfl) (fun _ _ _ h => h) (Or.inl ⟨by rfl, fun w h => by have c := row_at h.1 4 _ rfl; go_simp⟩) hS ?_
                try simp only [Act.put, nz0, nz1, nz2, nz3, nz4, nz5]
                refine wpAnyH_ready (rs := [25]) (by kernel_rfl) (by simp) ?_
                refine AllReadyH.cons rfl (fun K hK => ?_) AllReadyH.nil
                go_simp
                go_at_call 27
                refine Calls.mono (HE5.out _ hS.2.2) ?_
                rintro e w5_25 ⟨rfl, hcb⟩
                refine hK.out _ _ (⟨hS.1.below hcb hS.1.lt, hS.2.1.below hcb hS.2.1.lt, hS.2.2.trans (hcb.mono hS.2.2.size)⟩) fun hS => ?_
                try simp only [Act.put, nz0, nz1, nz2, nz3, nz4, nz5]
                clear hcb
                refine wpAnyH_take (i := 30) (v := .bool false) rfl (by kernel_rfl) (by kernel_rfl) (by kernel_rfl) (fun _ _ _ h => h) (Or.inl ⟨by rfl, fun w _ => by go_simp⟩) hS ?_
                try simp only [Act.put, nz0, nz1, nz2, nz3, nz4, nz5]
                refine wpAnyH_take (i := 31) (v := .bool false) rfl (by kernel_rfl) (by kernel_rfl) (by kernel_rfl) (fun _ _ _ h => h) (Or.inl ⟨by rfl, fun w _ => by go_simp⟩) hS ?_
                try simp only [Act.put, nz0, nz1, nz2, nz3, nz4, nz5]
                refine wpAnyH_take (i := 32) (v := .bool false) rfl (by kernel_rfl) (by kernel_rfl) (by kernel_rfl) (fun _ _ _ h => h) (Or.inl ⟨by rfl, fun w _ => by go_simp⟩) hS ?_
                try simp only [Act.put, nz0, nz1, nz2, nz3, nz4, nz5]
                refine wpAnyH_take (i := 33) (v := .pointer (some ⟨gd, 0, none⟩)) rfl (by kernel_rfl) (by kernel_rfl) (by kernel_rfl) (fun _ _ _ h => h) (Or.inl ⟨by rfl, fun w _ => by go_simp⟩) hS ?_
                try simp only [Act.put, nz0, nz1, nz2, nz3, nz4, nz5]
                refine wpAnyH_take (i := 35) (v := .pointer (some ⟨r, 0, none⟩)) rfl (by kernel_rfl) (by kernel_rfl) (by kernel_rfl) (fun _ _ _ h => h) (Or.inl ⟨by rfl, fun w _ => by go_simp⟩) hS ?_
                try simp only [Act.put, nz0, nz1, nz2, nz3, nz4, nz5]
                refine wpAnyH_take (i := 36) (v := .pointer (some ⟨r, 0, none⟩)) rfl (by kernel_rfl) (by kernel_rfl) (by kernel_rfl) (fun _ _ _ h => h) (Or.inl ⟨by rfl, fun w _ => by go_simp⟩) hS ?_
                try simp only [Act.put, nz0, nz1, nz2, nz3, nz4, nz5]
                refine wpAnyH_take (i := 37) (v := .pointer (some ⟨r, 5, none⟩)) rfl (by kernel_rfl) (by kernel_rfl) (by kernel_rfl) (fun _ _ _ h => h) (Or.inl ⟨by rfl, fun w _ => by go_simp⟩) hS ?_
                try simp only [Act.put, nz0, nz1, nz2, nz3, nz4, nz5]
                refine wpAnyH_take (i := 38) (v := .int .i64 R.ops) rfl (by kernel_rfl) (by kernel_rfl) (by kernel_rfl) (fun _ _ _ h => h) (Or.inl ⟨by rfl, fun w h => by have c := row_at h.2.1 5 _ rfl; go_simp⟩) hS ?_
                try simp only [Act.put, nz0, nz1, nz2, nz3, nz4, nz5]
                refine wpAnyH_ready (rs := [34]) (by kernel_rfl) (by simp) ?_
                refine AllReadyH.cons rfl (fun K hK => ?_) AllReadyH.nil
                go_simp
                go_at_call 28
                refine Calls.mono (HE6.out _ hS.2.2) ?_
                rintro e w6_34 ⟨rfl, hcb⟩
                refine hK.out _ _ (⟨hS.1.below hcb hS.1.lt, hS.2.1.below hcb hS.2.1.lt, hS.2.2.trans (hcb.mono hS.2.2.size)⟩) fun hS => ?_
                try simp only [Act.put, nz0, nz1, nz2, nz3, nz4, nz5]
                clear hcb
                refine wpAnyH_take (i := 39) (v := .bool false) rfl (by kernel_rfl) (by kernel_rfl) (by kernel_rfl) (fun _ _ _ h => h) (Or.inl ⟨by rfl, fun w _ => by go_simp⟩) hS ?_
                try simp only [Act.put, nz0, nz1, nz2, nz3, nz4, nz5]
                refine wpAnyH_take (i := 40) (v := .bool false) rfl (by kernel_rfl) (by kernel_rfl) (by kernel_rfl) (fun _ _ _ h => h) (Or.inl ⟨by rfl, fun w _ => by go_simp⟩) hS ?_
                try simp only [Act.put, nz0, nz1, nz2, nz3, nz4, nz5]
                refine wpAnyH_done (by kernel_rfl) ?_ _
                go_wp2
                go_roundw
                case rel => exact ⟨k + 1, by omega, by go_num, HLPn.out _ hS.2.2⟩
                case measure => simp [intOf]; omega
          by_cases hk_3 : kd = 3
          · subst hk_3
            as_aux_lemma =>
              have HZC : Hid (∀ wx, Below w.heap.size w wx → Cel wx (.slice fo fn fc) (zl.map (.int .i64))) := fun wx hb => by
                rcases HOKC.out.fs with q | ⟨a2, c2, q2, q3⟩
                · exact Or.inl q
                · exact Or.inr ⟨a2, c2, q2, fun j u hj => Ck.cell_keep (q3 j u hj) hb⟩
              have hbw7 := hB9.bs.b
              have HRC : Hid (∀ ty, ∃ v' w', (Builtin.append_ #[30, 30] ty #[.slice (some ⟨w7.heap.size, 0, none⟩) 0 0, .slice fo fn fc]).run Try.prog (w7.alloc (.cells #[] 3)) = .ok v' w' ∧ (Cel w' v' (zl.map (.int .i64)) ∧ High w7.heap.size v' ∧ Below w7.heap.size w7 w')) := fun ty => by
                obtain ⟨i, hi, hz0, hs, hby⟩ := Ck.info_parts info3
                exact run_copy w7 30 ty 3 i _ 8 Try.underlying30 hi hz0 hs hby rfl (.slice fo fn fc) _ (HZC.out w7 hbw7) (fun u hu => by obtain ⟨x, _, rfl⟩ := List.mem_map.1 hu; rfl) (by rw [List.length_map]; exact HOKC.out.zl) (by decide)
              have hgd7 := hB9.gd
              have HP1 : Hid (∀ wx v, Below w7.heap.size w7 wx → Cel wx v (zl.map (.int .i64)) → High w7.heap.size v → Calls Try.prog 21 #[.pointer (some ⟨gd, 0, none⟩), v, .int .i64 0] wx fun e w' => e = .returned (.tuple #[]) ∧ B9 w w' gl gd gm r (l) (d.plan zl 0) (M) (m) (R) (N) g9 #[.int .i64 3, .string ss, .int .u64 nn, .slice fo fn fc]) := fun wx v hb hc hh => (hB9.below hb).left (fun F hL => LStep.plan hL v zl hc (fun a n c q => by have := hh a n c q; omega) HOKC.out.zw HOKC.out.zl)
              have HP2 : Hid (∀ wx, B9 w wx gl gd gm r (l) (d.plan zl 0) (M) (m) (R) (N) g9 #[.int .i64 3, .string ss, .int .u64 nn, .slice fo fn fc] → Calls Try.prog 22 #[.pointer (some ⟨r, 0, none⟩), .slice fo fn fc, .int .i64 0] wx fun e w' => e = .returned (.tuple #[]) ∧ B9 w w' gl gd gm r (l) (d.plan zl 0) (M) (m) (rplan R zl 0) (N) g9 #[.int .i64 3, .string ss, .int .u64 nn, .slice fo fn fc]) := fun wx h => h.right (fun F hL => RLS.plan hL _ zl (HZC.out wx h.bs.b) HOKC.out.zl 0 (wf_of (by decide) (by decide)))
              have HLPn : Hid (∀ wx, B9 w wx gl gd gm r (l) (d.plan zl 0) (M) (m) (rplan R zl 0) (N) g9 #[.int .i64 3, .string ss, .int .u64 nn, .slice fo fn fc] → LP w wx gl gd gm r (k + 1)) := fun wx h => ⟨_, _, _, _, _, _, h.bs, hLR, rel_plan hRel zl 0, hPI.mono (by omega), hdn, ⟨by show (0 : Int) ≤ 0; omega, by show (0 : Int) ≤ _; omega⟩, by omega, by omega⟩
              have x0 := row_at hB9.row 0 _ rfl
              have x3 : (w7.alloc (.cells #[] 3)).cell? ⟨g9, 3, none⟩ = some (.slice fo fn fc) := row_at (hB9.row.alloc _) 3 _ rfl
              clear hLR hRel hPI hB9 hbw7
              generalize d.plan zl 0 = d2 at HP1 HP2 HLPn
              generalize rplan R zl 0 = R2 at HP2 HLPn
              go_upto_region 33 with (first
                | (at_builtin; refine wpList_copy rfl (.tmp 148) (.tmp 150) 30 rfl _ _ rfl rfl (fun ty => HRC.out ty) ?_
                   rintro v5 w8 ⟨hkc, hkh, hkb⟩)
                | (go_at_call 21; refine Calls.mono (HP1.out _ _ hkb hkc hkh) ?_; clear HP1; rintro e y1 ⟨rfl, t1⟩; have x4 := row_at t1.row 3 _ rfl)
                | (go_at_call 22; refine Calls.mono (HP2.out _ t1) ?_; clear HP2; rintro e y2 ⟨rfl, t2⟩))
              have hLP2 := HLPn.out _ t2
              clear HLPn x0 x3 x4 t1 t2 hkc hkh hkb HRC HZC
              obtain ⟨l, d, M, m, R, N, hBS, hLR, hRel, hPI, hdn, hop, hM, hN⟩ := hLP2
              have HLPn : Hid (∀ wx, Below y2.heap.size y2 wx → LP w wx gl gd gm r (k + 1)) := fun wx hb => ⟨l, d, M, m, R, N, hBS.below hb, hLR, hRel, hPI, hdn, hop, hM, hN⟩
              have hfew := hPI.inv.few
              have hmb := hLR.len
              have hl7 := hPI.len
              have hsz := hPI.inv.size
              obtain ⟨vl, vs, L, vb, v1, v2, v3, h1, h2, h3, h4, h5, h6⟩ := hBS
              obtain ⟨ol, cl, hvl⟩ := h1.last.form
              obtain ⟨osl, csl, hvs⟩ := h1.sld.form
              have hlr := h1.row
              rw [hvl, hvs] at hlr
              have HE1 : Hid (∀ wx, Below y2.heap.size y2 wx → Calls Try.prog 23 #[.pointer (some ⟨gl, 0, none⟩)] wx fun e w' => e = .returned (.int .u64 m.fin) ∧ Below wx.heap.size wx w') := fun wx hb => by rw [hLR.fin]; exact end_any gl _ _ _ l wx (h1.row.below hb h1.row.lt)
              have HE2 : Hid (∀ wx, Below y2.heap.size y2 wx → Calls Try.prog 24 #[.pointer (some ⟨gl, 0, none⟩)] wx fun e w' => e = .returned (.int .u64 m.dur) ∧ Below wx.heap.size wx w') := fun wx hb => by rw [hLR.dur]; exact dur_any gl _ _ _ l wx (h1.row.below hb h1.row.lt)
              have HE3 : Hid (∀ wx, Below y2.heap.size y2 wx → Calls Try.prog 25 #[.pointer (some ⟨gl, 0, none⟩)] wx fun e w' => e = .returned (.int .i64 (freeM m)) ∧ Below wx.heap.size wx w') := fun wx hb => by
                rw [← hLR.free hPI.inv.op]
                exact LD.free' (h1.below hb) hPI.inv
              have HE4 : Hid (∀ wx, Below y2.heap.size y2 wx → Calls Try.prog 26 #[.pointer (some ⟨gm, 0, none⟩)] wx fun e w' => e = .returned (.int .i64 (freeM m)) ∧ Below wx.heap.size wx w') := fun wx hb => rfree' (h2.off (Off.of_below (F := fun _ => False) hb) (fun _ _ q => q)) (by omega) (by rw [hLR.sz]; omega)
              have HE5 : Hid (∀ wx, Below y2.heap.size y2 wx → Calls Try.prog 27 #[.pointer (some ⟨gl, 0, none⟩)] wx fun e w' => e = .returned (.int .u32 m.first) ∧ Below wx.heap.size wx w') := fun wx hb => by
                rw [← hLR.tail]
                exact LD.tail' (h1.below hb) hPI.inv
              have HE6 : Hid (∀ wx, Below y2.heap.size y2 wx → Calls Try.prog 28 #[.pointer (some ⟨gd, 0, none⟩)] wx fun e w' => e = .returned (.int .i64 R.ops) ∧ Below wx.heap.size wx w') := fun wx hb => by
                rw [hRel.ops]
                exact (ops_any (h1.dsk.below hb)).mono (fun e w' h => ⟨h.1, by rw [h.2]; exact Below.refl _ _⟩)
              have qm := h2.row
              have qr := h2.dsk.row
              unfold rlcells at qm
              unfold rdcells at qr
              generalize freeM m = FR at HE3 HE4
              clear h1 h2 h3 h4 h5 h6 hlr hLR hRel hPI
              refine wp_region_held_drew (S := fun w' => Row w' gm #[.pointer (some ⟨r, 0, none⟩), .int .i64 m.at_, .int .i64 m.size, .int .u32 m.ep, .int .u32 m.first, vb, .int .i64 m.lasting, .string m.open_, .int .u64 m.fin, .int .u64 m.dur, .bool m.old] 49 ∧ Row w' r #[.int .i64 R.n, v1, v2, v3, .int .i64 R.fuse, .int .i64 R.ops, .bool R.down] 32 ∧ Below y2.heap.size y2 w') (by kernel_rfl) ⟨qm, qr, (Below.refl y2.heap.size y2).drew⟩ fun hS => ?_
              generalize y2.drew = W0 at hS ⊢
              refine wpAnyH_take (i := 0) (v := .pointer (some ⟨gl, 0, none⟩)) rfl (by kernel_rfl) (by kernel_rfl) (by kernel_rfl) (fun _ _ _ h => h) (Or.inl ⟨by rfl, fun w _ => by go_simp⟩) hS ?_
              try simp only [Act.put, nz0, nz1, nz2, nz3, nz4, nz5]
              refine wpAnyH_take (i := 2) (v := .pointer (some ⟨gm, 0, none⟩)) rfl (by kernel_rfl) (by kernel_rfl) (by kernel_rfl) (fun _ _ _ h => h) (Or.inl ⟨by rfl, fun w _ => by go_simp⟩) hS ?_
              try simp only [Act.put, nz0, nz1, nz2, nz3, nz4, nz5]
              refine wpAnyH_take (i := 3) (v := .pointer (some ⟨gm, 0, none⟩)) rfl (by kernel_rfl) (by kernel_rfl) (by kernel_rfl) (fun _ _ _ h => h) (Or.inl ⟨by rfl, fun w _ => by go_simp⟩) hS ?_
              try simp only [Act.put, nz0, nz1, nz2, nz3, nz4, nz5]
              refine wpAnyH_take (i := 4) (v := .pointer (some ⟨gm, 8, none⟩)) rfl (by kernel_rfl) (by kernel_rfl) (by kernel_rfl) (fun _ _ _ h => h) (Or.inl ⟨by rfl, fun w _ => by go_simp⟩) hS ?_
              try simp only [Act.put, nz0, nz1, nz2, nz3, nz4, nz5]
              refine wpAnyH_take (i := 5) (v := .int .u64 m.fin) rfl (by kernel_rfl) (by kernel_rfl) (by kernel_rfl) (fun _ _ _ h => h) (Or.inl ⟨by rfl, fun w h => by have c := row_at h.1 8 _ rfl; go_simp⟩) hS ?_
              try simp only [Act.put, nz0, nz1, nz2, nz3, nz4, nz5]
              refine wpAnyH_ready (rs := [1]) (by kernel_rfl) (by simp) ?_
              refine AllReadyH.cons rfl (fun K hK => ?_) AllReadyH.nil
              go_simp
              go_at_call 23
              refine Calls.mono (HE1.out _ hS.2.2) ?_
              rintro e w1_1 ⟨rfl, hcb⟩
              refine hK.out _ _ (⟨hS.1.below hcb hS.1.lt, hS.2.1.below hcb hS.2.1.lt, hS.2.2.trans (hcb.mono hS.2.2.size)⟩) fun hS => ?_
              try simp only [Act.put, nz0, nz1, nz2, nz3, nz4, nz5]
              clear hcb
              refine wpAnyH_take (i := 6) (v := .bool false) rfl (by kernel_rfl) (by kernel_rfl) (by kernel_rfl) (fun _ _ _ h => h) (Or.inl ⟨by rfl, fun w _ => by go_simp⟩) hS ?_
              try simp only [Act.put, nz0, nz1, nz2, nz3, nz4, nz5]
              refine wpAnyH_take (i := 7) (v := .bool false) rfl (by kernel_rfl) (by kernel_rfl) (by kernel_rfl) (fun _ _ _ h => h) (Or.inl ⟨by rfl, fun w _ => by go_simp⟩) hS ?_
              try simp only [Act.put, nz0, nz1, nz2, nz3, nz4, nz5]
              refine wpAnyH_take (i := 8) (v := .pointer (some ⟨gl, 0, none⟩)) rfl (by kernel_rfl) (by kernel_rfl) (by kernel_rfl) (fun _ _ _ h => h) (Or.inl ⟨by rfl, fun w _ => by go_simp⟩) hS ?_
              try simp only [Act.put, nz0, nz1, nz2, nz3, nz4, nz5]
              refine wpAnyH_take (i := 10) (v := .pointer (some ⟨gm, 0, none⟩)) rfl (by kernel_rfl) (by kernel_rfl) (by kernel_rfl) (fun _ _ _ h => h) (Or.inl ⟨by rfl, fun w _ => by go_simp⟩) hS ?_
              try simp only [Act.put, nz0, nz1, nz2, nz3, nz4, nz5]
              refine wpAnyH_take (i := 11) (v := .pointer (some ⟨gm, 0, none⟩)) rfl (by kernel_rfl) (by kernel_rfl) (by kernel_rfl) (fun _ _ _ h => h) (Or.inl ⟨by rfl, fun w _ => by go_simp⟩) hS ?_
              try simp only [Act.put, nz0, nz1, nz2, nz3, nz4, nz5]
              refine wpAnyH_take (i := 12) (v := .pointer (some ⟨gm, 9, none⟩)) rfl (by kernel_rfl) (by kernel_rfl) (by kernel_rfl) (fun _ _ _ h => h) (Or.inl ⟨by rfl, fun w _ => by go_simp⟩) hS ?_
              try simp only [Act.put, nz0, nz1, nz2, nz3, nz4, nz5]
              refine wpAnyH_take (i := 13) (v := .int .u64 m.dur) rfl (by kernel_rfl) (by kernel_rfl) (by kernel_rfl) (fun _ _ _ h => h) (Or.inl ⟨by rfl, fun w h => by have c := row_at h.1 9 _ rfl; go_simp⟩) hS ?_
              try simp only [Act.put, nz0, nz1, nz2, nz3, nz4, nz5]
              refine wpAnyH_ready (rs := [9]) (by kernel_rfl) (by simp) ?_
              refine AllReadyH.cons rfl (fun K hK => ?_) AllReadyH.nil
              go_simp
              go_at_call 24
              refine Calls.mono (HE2.out _ hS.2.2) ?_
              rintro e w2_9 ⟨rfl, hcb⟩
              refine hK.out _ _ (⟨hS.1.below hcb hS.1.lt, hS.2.1.below hcb hS.2.1.lt, hS.2.2.trans (hcb.mono hS.2.2.size)⟩) fun hS => ?_
              try simp only [Act.put, nz0, nz1, nz2, nz3, nz4, nz5]
              clear hcb
              refine wpAnyH_take (i := 14) (v := .bool false) rfl (by kernel_rfl) (by kernel_rfl) (by kernel_rfl) (fun _ _ _ h => h) (Or.inl ⟨by rfl, fun w _ => by go_simp⟩) hS ?_
              try simp only [Act.put, nz0, nz1, nz2, nz3, nz4, nz5]
              refine wpAnyH_take (i := 15) (v := .bool false) rfl (by kernel_rfl) (by kernel_rfl) (by kernel_rfl) (fun _ _ _ h => h) (Or.inl ⟨by rfl, fun w _ => by go_simp⟩) hS ?_
              try simp only [Act.put, nz0, nz1, nz2, nz3, nz4, nz5]
              refine wpAnyH_take (i := 16) (v := .bool false) rfl (by kernel_rfl) (by kernel_rfl) (by kernel_rfl) (fun _ _ _ h => h) (Or.inl ⟨by rfl, fun w _ => by go_simp⟩) hS ?_
              try simp only [Act.put, nz0, nz1, nz2, nz3, nz4, nz5]
              refine wpAnyH_take (i := 17) (v := .pointer (some ⟨gl, 0, none⟩)) rfl (by kernel_rfl) (by kernel_rfl) (by kernel_rfl) (fun _ _ _ h => h) (Or.inl ⟨by rfl, fun w _ => by go_simp⟩) hS ?_
              try simp only [Act.put, nz0, nz1, nz2, nz3, nz4, nz5]
              refine wpAnyH_take (i := 19) (v := .pointer (some ⟨gm, 0, none⟩)) rfl (by kernel_rfl) (by kernel_rfl) (by kernel_rfl) (fun _ _ _ h => h) (Or.inl ⟨by rfl, fun w _ => by go_simp⟩) hS ?_
              try simp only [Act.put, nz0, nz1, nz2, nz3, nz4, nz5]
              refine wpAnyH_ready (rs := [18]) (by kernel_rfl) (by simp) ?_
              refine AllReadyH.cons rfl (fun K hK => ?_) AllReadyH.nil
              go_simp
              go_at_call 25
              refine Calls.mono (HE3.out _ hS.2.2) ?_
              rintro e w3_18 ⟨rfl, hcb⟩
              refine hK.out _ _ (⟨hS.1.below hcb hS.1.lt, hS.2.1.below hcb hS.2.1.lt, hS.2.2.trans (hcb.mono hS.2.2.size)⟩) fun hS => ?_
              try simp only [Act.put, nz0, nz1, nz2, nz3, nz4, nz5]
              clear hcb
              refine wpAnyH_ready (rs := [20]) (by kernel_rfl) (by simp) ?_
              refine AllReadyH.cons rfl (fun K hK => ?_) AllReadyH.nil
              go_simp
              go_at_call 26
              refine Calls.mono (HE4.out _ hS.2.2) ?_
              rintro e w4_20 ⟨rfl, hcb⟩
              refine hK.out _ _ (⟨hS.1.below hcb hS.1.lt, hS.2.1.below hcb hS.2.1.lt, hS.2.2.trans (hcb.mono hS.2.2.size)⟩) fun hS => ?_
              try simp only [Act.put, nz0, nz1, nz2, nz3, nz4, nz5]
              clear hcb
              refine wpAnyH_take (i := 21) (v := .bool false) rfl (by kernel_rfl) (by kernel_rfl) (by kernel_rfl) (fun _ _ _ h => h) (Or.inl ⟨by rfl, fun w _ => by go_simp⟩) hS ?_
              try simp only [Act.put, nz0, nz1, nz2, nz3, nz4, nz5]
              refine wpAnyH_take (i := 22) (v := .bool false) rfl (by kernel_rfl) (by kernel_rfl) (by kernel_rfl) (fun _ _ _ h => h) (Or.inl ⟨by rfl, fun w _ => by go_simp⟩) hS ?_
              try simp only [Act.put, nz0, nz1, nz2, nz3, nz4, nz5]
              refine wpAnyH_take (i := 23) (v := .bool false) rfl (by kernel_rfl) (by kernel_rfl) (by kernel_rfl) (fun _ _ _ h => h) (Or.inl ⟨by rfl, fun w _ => by go_simp⟩) hS ?_
              try simp only [Act.put, nz0, nz1, nz2, nz3, nz4, nz5]
              refine wpAnyH_take (i := 24) (v := .pointer (some ⟨gl, 0, none⟩)) rfl (by kernel_rfl) (by kernel_rfl) (by kernel_rfl) (fun _ _ _ h => h) (Or.inl ⟨by rfl, fun w _ => by go_simp⟩) hS ?_
              try simp only [Act.put, nz0, nz1, nz2, nz3, nz4, nz5]
              refine wpAnyH_take (i := 26) (v := .pointer (some ⟨gm, 0, none⟩)) rfl (by kernel_rfl) (by kernel_rfl) (by kernel_rfl) (fun _ _ _ h => h) (Or.inl ⟨by rfl, fun w _ => by go_simp⟩) hS ?_
              try simp only [Act.put, nz0, nz1, nz2, nz3, nz4, nz5]
              refine wpAnyH_take (i := 27) (v := .pointer (some ⟨gm, 0, none⟩)) rfl (by kernel_rfl) (by kernel_rfl) (by kernel_rfl) (fun _ _ _ h => h) (Or.inl ⟨by rfl, fun w _ => by go_simp⟩) hS ?_
              try simp only [Act.put, nz0, nz1, nz2, nz3, nz4, nz5]
              refine wpAnyH_take (i := 28) (v := .pointer (some ⟨gm, 4, none⟩)) rfl (by kernel_rfl) (by kernel_rfl) (by kernel_rfl) (fun _ _ _ h => h) (Or.inl ⟨by rfl, fun w _ => by go_simp⟩) hS ?_
              try simp only [Act.put, nz0, nz1, nz2, nz3, nz4, nz5]
              refine wpAnyH_take (i := 29) (v := .int .u32 m.first) rfl (by kernel_rfl) (by kernel_rfl) (by kernel_rfl) (fun _ _ _ h => h) (Or.inl ⟨by rfl, fun w h => by have c := row_at h.1 4 _ rfl; go_simp⟩) hS ?_
              try simp only [Act.put, nz0, nz1, nz2, nz3, nz4, nz5]
              refine wpAnyH_ready (rs := [25]) (by kernel_rfl) (by simp) ?_
              refine AllReadyH.cons rfl (fun K hK => ?_) AllReadyH.nil
              go_simp
              go_at_call 27
              refine Calls.mono (HE5.out _ hS.2.2) ?_
              rintro e w5_25 ⟨rfl, hcb⟩
              refine hK.out _ _ (⟨hS.1.below hcb hS.1.lt, hS.2.1.below hcb hS.2.1.lt, hS.2.2.trans (hcb.mono hS.2.2.size)⟩) fun hS => ?_
              try simp only [Act.put, nz0, nz1, nz2, nz3, nz4, nz5]
              clear hcb
              refine wpAnyH_take (i := 30) (v := .bool false) rfl (by kernel_rfl) (by kernel_rfl) (by kernel_rfl) (fun _ _ _ h => h) (Or.inl ⟨by rfl, fun w _ => by go_simp⟩) hS ?_
              try simp only [Act.put, nz0, nz1, nz2, nz3, nz4, nz5]
              refine wpAnyH_take (i := 31) (v := .bool false) rfl (by kernel_rfl) (by kernel_rfl) (by kernel_rfl) (fun _ _ _ h => h) (Or.inl ⟨by rfl, fun w _ => by go_simp⟩) hS ?_
              try simp only [Act.put, nz0, nz1, nz2, nz3, nz4, nz5]
              refine wpAnyH_take (i := 32) (v := .bool false) rfl (by kernel_rfl) (by kernel_rfl) (by kernel_rfl) (fun _ _ _ h => h) (Or.inl ⟨by rfl, fun w _ => by go_simp⟩) hS ?_
              try simp only [Act.put, nz0, nz1, nz2, nz3, nz4, nz5]
              refine wpAnyH_take (i := 33) (v := .pointer (some ⟨gd, 0, none⟩)) rfl (by kernel_rfl) (by kernel_rfl) (by kernel_rfl) (fun _ _ _ h => h) (Or.inl ⟨by rfl, fun w _ => by go_simp⟩) hS ?_
              try simp only [Act.put, nz0, nz1, nz2, nz3, nz4, nz5]
              refine wpAnyH_take (i := 35) (v := .pointer (some ⟨r, 0, none⟩)) rfl (by kernel_rfl) (by kernel_rfl) (by kernel_rfl) (fun _ _ _ h => h) (Or.inl ⟨by rfl, fun w _ => by go_simp⟩) hS ?_
              try simp only [Act.put, nz0, nz1, nz2, nz3, nz4, nz5]
              refine wpAnyH_take (i := 36) (v := .pointer (some ⟨r, 0, none⟩)) rfl (by kernel_rfl) (by kernel_rfl) (by kernel_rfl) (fun _ _ _ h => h) (Or.inl ⟨by rfl, fun w _ => by go_simp⟩) hS ?_
              try simp only [Act.put, nz0, nz1, nz2, nz3, nz4, nz5]
              refine wpAnyH_take (i := 37) (v := .pointer (some ⟨r, 5, none⟩)) rfl (by kernel_rfl) (by kernel_rfl) (by kernel_rfl) (fun _ _ _ h => h) (Or.inl ⟨by rfl, fun w _ => by go_simp⟩) hS ?_
              try simp only [Act.put, nz0, nz1, nz2, nz3, nz4, nz5]
              refine wpAnyH_take (i := 38) (v := .int .i64 R.ops) rfl (by kernel_rfl) (by kernel_rfl) (by kernel_rfl) (fun _ _ _ h => h) (Or.inl ⟨by rfl, fun w h => by have c := row_at h.2.1 5 _ rfl; go_simp⟩) hS ?_
              try simp only [Act.put, nz0, nz1, nz2, nz3, nz4, nz5]
              refine wpAnyH_ready (rs := [34]) (by kernel_rfl) (by simp) ?_
              refine AllReadyH.cons rfl (fun K hK => ?_) AllReadyH.nil
              go_simp
              go_at_call 28
              refine Calls.mono (HE6.out _ hS.2.2) ?_
              rintro e w6_34 ⟨rfl, hcb⟩
              refine hK.out _ _ (⟨hS.1.below hcb hS.1.lt, hS.2.1.below hcb hS.2.1.lt, hS.2.2.trans (hcb.mono hS.2.2.size)⟩) fun hS => ?_
              try simp only [Act.put, nz0, nz1, nz2, nz3, nz4, nz5]
              clear hcb
              refine wpAnyH_take (i := 39) (v := .bool false) rfl (by kernel_rfl) (by kernel_rfl) (by kernel_rfl) (fun _ _ _ h => h) (Or.inl ⟨by rfl, fun w _ => by go_simp⟩) hS ?_
              try simp only [Act.put, nz0, nz1, nz2, nz3, nz4, nz5]
              refine wpAnyH_take (i := 40) (v := .bool false) rfl (by kernel_rfl) (by kernel_rfl) (by kernel_rfl) (fun _ _ _ h => h) (Or.inl ⟨by rfl, fun w _ => by go_simp⟩) hS ?_
              try simp only [Act.put, nz0, nz1, nz2, nz3, nz4, nz5]
              refine wpAnyH_done (by kernel_rfl) ?_ _
              go_wp2
              go_roundw
              case rel => exact ⟨k + 1, by omega, by go_num, HLPn.out _ hS.2.2⟩
              case measure => simp [intOf]; omega
          have HLPn : Hid (LP w w7 gl gd gm r (k + 1)) := ⟨_, _, _, _, _, _, hB9.bs, hLR, hRel, hPI.mono (by omega), hdn, ⟨hop.1, by omega⟩, by omega, by omega⟩
          have x0 := row_at hB9.row 0 _ rfl
          clear hLR hRel hPI
          go_upto_region 33 with fail
          have hLP2 := HLPn.out
          clear HLPn x0 hB9
          obtain ⟨l, d, M, m, R, N, hBS, hLR, hRel, hPI, hdn, hop, hM, hN⟩ := hLP2
          have HLPn : Hid (∀ wx, Below w7.heap.size w7 wx → LP w wx gl gd gm r (k + 1)) := fun wx hb => ⟨l, d, M, m, R, N, hBS.below hb, hLR, hRel, hPI, hdn, hop, hM, hN⟩
          have hfew := hPI.inv.few
          have hmb := hLR.len
          have hl7 := hPI.len
          have hsz := hPI.inv.size
          obtain ⟨vl, vs, L, vb, v1, v2, v3, h1, h2, h3, h4, h5, h6⟩ := hBS
          obtain ⟨ol, cl, hvl⟩ := h1.last.form
          obtain ⟨osl, csl, hvs⟩ := h1.sld.form
          have hlr := h1.row
          rw [hvl, hvs] at hlr
          have HE1 : Hid (∀ wx, Below w7.heap.size w7 wx → Calls Try.prog 23 #[.pointer (some ⟨gl, 0, none⟩)] wx fun e w' => e = .returned (.int .u64 m.fin) ∧ Below wx.heap.size wx w') := fun wx hb => by rw [hLR.fin]; exact end_any gl _ _ _ l wx (h1.row.below hb h1.row.lt)
          have HE2 : Hid (∀ wx, Below w7.heap.size w7 wx → Calls Try.prog 24 #[.pointer (some ⟨gl, 0, none⟩)] wx fun e w' => e = .returned (.int .u64 m.dur) ∧ Below wx.heap.size wx w') := fun wx hb => by rw [hLR.dur]; exact dur_any gl _ _ _ l wx (h1.row.below hb h1.row.lt)
          have HE3 : Hid (∀ wx, Below w7.heap.size w7 wx → Calls Try.prog 25 #[.pointer (some ⟨gl, 0, none⟩)] wx fun e w' => e = .returned (.int .i64 (freeM m)) ∧ Below wx.heap.size wx w') := fun wx hb => by
            rw [← hLR.free hPI.inv.op]
            exact LD.free' (h1.below hb) hPI.inv
          have HE4 : Hid (∀ wx, Below w7.heap.size w7 wx → Calls Try.prog 26 #[.pointer (some ⟨gm, 0, none⟩)] wx fun e w' => e = .returned (.int .i64 (freeM m)) ∧ Below wx.heap.size wx w') := fun wx hb => rfree' (h2.off (Off.of_below (F := fun _ => False) hb) (fun _ _ q => q)) (by omega) (by rw [hLR.sz]; omega)
          have HE5 : Hid (∀ wx, Below w7.heap.size w7 wx → Calls Try.prog 27 #[.pointer (some ⟨gl, 0, none⟩)] wx fun e w' => e = .returned (.int .u32 m.first) ∧ Below wx.heap.size wx w') := fun wx hb => by
            rw [← hLR.tail]
            exact LD.tail' (h1.below hb) hPI.inv
          have HE6 : Hid (∀ wx, Below w7.heap.size w7 wx → Calls Try.prog 28 #[.pointer (some ⟨gd, 0, none⟩)] wx fun e w' => e = .returned (.int .i64 R.ops) ∧ Below wx.heap.size wx w') := fun wx hb => by
            rw [hRel.ops]
            exact (ops_any (h1.dsk.below hb)).mono (fun e w' h => ⟨h.1, by rw [h.2]; exact Below.refl _ _⟩)
          have qm := h2.row
          have qr := h2.dsk.row
          unfold rlcells at qm
          unfold rdcells at qr
          generalize freeM m = FR at HE3 HE4
          clear h1 h2 h3 h4 h5 h6 hlr hLR hRel hPI
          refine wp_region_held_drew (S := fun w' => Row w' gm #[.pointer (some ⟨r, 0, none⟩), .int .i64 m.at_, .int .i64 m.size, .int .u32 m.ep, .int .u32 m.first, vb, .int .i64 m.lasting, .string m.open_, .int .u64 m.fin, .int .u64 m.dur, .bool m.old] 49 ∧ Row w' r #[.int .i64 R.n, v1, v2, v3, .int .i64 R.fuse, .int .i64 R.ops, .bool R.down] 32 ∧ Below w7.heap.size w7 w') (by kernel_rfl) ⟨qm, qr, (Below.refl w7.heap.size w7).drew⟩ fun hS => ?_
          generalize w7.drew = W0 at hS ⊢
          refine wpAnyH_take (i := 0) (v := .pointer (some ⟨gl, 0, none⟩)) rfl (by kernel_rfl) (by kernel_rfl) (by kernel_rfl) (fun _ _ _ h => h) (Or.inl ⟨by rfl, fun w _ => by go_simp⟩) hS ?_
          try simp only [Act.put, nz0, nz1, nz2, nz3, nz4, nz5]
          refine wpAnyH_take (i := 2) (v := .pointer (some ⟨gm, 0, none⟩)) rfl (by kernel_rfl) (by kernel_rfl) (by kernel_rfl) (fun _ _ _ h => h) (Or.inl ⟨by rfl, fun w _ => by go_simp⟩) hS ?_
          try simp only [Act.put, nz0, nz1, nz2, nz3, nz4, nz5]
          refine wpAnyH_take (i := 3) (v := .pointer (some ⟨gm, 0, none⟩)) rfl (by kernel_rfl) (by kernel_rfl) (by kernel_rfl) (fun _ _ _ h => h) (Or.inl ⟨by rfl, fun w _ => by go_simp⟩) hS ?_
          try simp only [Act.put, nz0, nz1, nz2, nz3, nz4, nz5]
          refine wpAnyH_take (i := 4) (v := .pointer (some ⟨gm, 8, none⟩)) rfl (by kernel_rfl) (by kernel_rfl) (by kernel_rfl) (fun _ _ _ h => h) (Or.inl ⟨by rfl, fun w _ => by go_simp⟩) hS ?_
          try simp only [Act.put, nz0, nz1, nz2, nz3, nz4, nz5]
          refine wpAnyH_take (i := 5) (v := .int .u64 m.fin) rfl (by kernel_rfl) (by kernel_rfl) (by kernel_rfl) (fun _ _ _ h => h) (Or.inl ⟨by rfl, fun w h => by have c := row_at h.1 8 _ rfl; go_simp⟩) hS ?_
          try simp only [Act.put, nz0, nz1, nz2, nz3, nz4, nz5]
          refine wpAnyH_ready (rs := [1]) (by kernel_rfl) (by simp) ?_
          refine AllReadyH.cons rfl (fun K hK => ?_) AllReadyH.nil
          go_simp
          go_at_call 23
          refine Calls.mono (HE1.out _ hS.2.2) ?_
          rintro e w1_1 ⟨rfl, hcb⟩
          refine hK.out _ _ (⟨hS.1.below hcb hS.1.lt, hS.2.1.below hcb hS.2.1.lt, hS.2.2.trans (hcb.mono hS.2.2.size)⟩) fun hS => ?_
          try simp only [Act.put, nz0, nz1, nz2, nz3, nz4, nz5]
          clear hcb
          refine wpAnyH_take (i := 6) (v := .bool false) rfl (by kernel_rfl) (by kernel_rfl) (by kernel_rfl) (fun _ _ _ h => h) (Or.inl ⟨by rfl, fun w _ => by go_simp⟩) hS ?_
          try simp only [Act.put, nz0, nz1, nz2, nz3, nz4, nz5]
          refine wpAnyH_take (i := 7) (v := .bool false) rfl (by kernel_rfl) (by kernel_rfl) (by kernel_rfl) (fun _ _ _ h => h) (Or.inl ⟨by rfl, fun w _ => by go_simp⟩) hS ?_
          try simp only [Act.put, nz0, nz1, nz2, nz3, nz4, nz5]
          refine wpAnyH_take (i := 8) (v := .pointer (some ⟨gl, 0, none⟩)) rfl (by kernel_rfl) (by kernel_rfl) (by kernel_rfl) (fun _ _ _ h => h) (Or.inl ⟨by rfl, fun w _ => by go_simp⟩) hS ?_
          try simp only [Act.put, nz0, nz1, nz2, nz3, nz4, nz5]
          refine wpAnyH_take (i := 10) (v := .pointer (some ⟨gm, 0, none⟩)) rfl (by kernel_rfl) (by kernel_rfl) (by kernel_rfl) (fun _ _ _ h => h) (Or.inl ⟨by rfl, fun w _ => by go_simp⟩) hS ?_
          try simp only [Act.put, nz0, nz1, nz2, nz3, nz4, nz5]
          refine wpAnyH_take (i := 11) (v := .pointer (some ⟨gm, 0, none⟩)) rfl (by kernel_rfl) (by kernel_rfl) (by kernel_rfl) (fun _ _ _ h => h) (Or.inl ⟨by rfl, fun w _ => by go_simp⟩) hS ?_
          try simp only [Act.put, nz0, nz1, nz2, nz3, nz4, nz5]
          refine wpAnyH_take (i := 12) (v := .pointer (some ⟨gm, 9, none⟩)) rfl (by kernel_rfl) (by kernel_rfl) (by kernel_rfl) (fun _ _ _ h => h) (Or.inl ⟨by rfl, fun w _ => by go_simp⟩) hS ?_
          try simp only [Act.put, nz0, nz1, nz2, nz3, nz4, nz5]
          refine wpAnyH_take (i := 13) (v := .int .u64 m.dur) rfl (by kernel_rfl) (by kernel_rfl) (by kernel_rfl) (fun _ _ _ h => h) (Or.inl ⟨by rfl, fun w h => by have c := row_at h.1 9 _ rfl; go_simp⟩) hS ?_
          try simp only [Act.put, nz0, nz1, nz2, nz3, nz4, nz5]
          refine wpAnyH_ready (rs := [9]) (by kernel_rfl) (by simp) ?_
          refine AllReadyH.cons rfl (fun K hK => ?_) AllReadyH.nil
          go_simp
          go_at_call 24
          refine Calls.mono (HE2.out _ hS.2.2) ?_
          rintro e w2_9 ⟨rfl, hcb⟩
          refine hK.out _ _ (⟨hS.1.below hcb hS.1.lt, hS.2.1.below hcb hS.2.1.lt, hS.2.2.trans (hcb.mono hS.2.2.size)⟩) fun hS => ?_
          try simp only [Act.put, nz0, nz1, nz2, nz3, nz4, nz5]
          clear hcb
          refine wpAnyH_take (i := 14) (v := .bool false) rfl (by kernel_rfl) (by kernel_rfl) (by kernel_rfl) (fun _ _ _ h => h) (Or.inl ⟨by rfl, fun w _ => by go_simp⟩) hS ?_
          try simp only [Act.put, nz0, nz1, nz2, nz3, nz4, nz5]
          refine wpAnyH_take (i := 15) (v := .bool false) rfl (by kernel_rfl) (by kernel_rfl) (by kernel_rfl) (fun _ _ _ h => h) (Or.inl ⟨by rfl, fun w _ => by go_simp⟩) hS ?_
          try simp only [Act.put, nz0, nz1, nz2, nz3, nz4, nz5]
          refine wpAnyH_take (i := 16) (v := .bool false) rfl (by kernel_rfl) (by kernel_rfl) (by kernel_rfl) (fun _ _ _ h => h) (Or.inl ⟨by rfl, fun w _ => by go_simp⟩) hS ?_
          try simp only [Act.put, nz0, nz1, nz2, nz3, nz4, nz5]
          refine wpAnyH_take (i := 17) (v := .pointer (some ⟨gl, 0, none⟩)) rfl (by kernel_rfl) (by kernel_rfl) (by kernel_rfl) (fun _ _ _ h => h) (Or.inl ⟨by rfl, fun w _ => by go_simp⟩) hS ?_
          try simp only [Act.put, nz0, nz1, nz2, nz3, nz4, nz5]
          refine wpAnyH_take (i := 19) (v := .pointer (some ⟨gm, 0, none⟩)) rfl (by kernel_rfl) (by kernel_rfl) (by kernel_rfl) (fun _ _ _ h => h) (Or.inl ⟨by rfl, fun w _ => by go_simp⟩) hS ?_
          try simp only [Act.put, nz0, nz1, nz2, nz3, nz4, nz5]
          refine wpAnyH_ready (rs := [18]) (by kernel_rfl) (by simp) ?_
          refine AllReadyH.cons rfl (fun K hK => ?_) AllReadyH.nil
          go_simp
          go_at_call 25
          refine Calls.mono (HE3.out _ hS.2.2) ?_
          rintro e w3_18 ⟨rfl, hcb⟩
          refine hK.out _ _ (⟨hS.1.below hcb hS.1.lt, hS.2.1.below hcb hS.2.1.lt, hS.2.2.trans (hcb.mono hS.2.2.size)⟩) fun hS => ?_
          try simp only [Act.put, nz0, nz1, nz2, nz3, nz4, nz5]
          clear hcb
          refine wpAnyH_ready (rs := [20]) (by kernel_rfl) (by simp) ?_
          refine AllReadyH.cons rfl (fun K hK => ?_) AllReadyH.nil
          go_simp
          go_at_call 26
          refine Calls.mono (HE4.out _ hS.2.2) ?_
          rintro e w4_20 ⟨rfl, hcb⟩
          refine hK.out _ _ (⟨hS.1.below hcb hS.1.lt, hS.2.1.below hcb hS.2.1.lt, hS.2.2.trans (hcb.mono hS.2.2.size)⟩) fun hS => ?_
          try simp only [Act.put, nz0, nz1, nz2, nz3, nz4, nz5]
          clear hcb
          refine wpAnyH_take (i := 21) (v := .bool false) rfl (by kernel_rfl) (by kernel_rfl) (by kernel_rfl) (fun _ _ _ h => h) (Or.inl ⟨by rfl, fun w _ => by go_simp⟩) hS ?_
          try simp only [Act.put, nz0, nz1, nz2, nz3, nz4, nz5]
          refine wpAnyH_take (i := 22) (v := .bool false) rfl (by kernel_rfl) (by kernel_rfl) (by kernel_rfl) (fun _ _ _ h => h) (Or.inl ⟨by rfl, fun w _ => by go_simp⟩) hS ?_
          try simp only [Act.put, nz0, nz1, nz2, nz3, nz4, nz5]
          refine wpAnyH_take (i := 23) (v := .bool false) rfl (by kernel_rfl) (by kernel_rfl) (by kernel_rfl) (fun _ _ _ h => h) (Or.inl ⟨by rfl, fun w _ => by go_simp⟩) hS ?_
          try simp only [Act.put, nz0, nz1, nz2, nz3, nz4, nz5]
          refine wpAnyH_take (i := 24) (v := .pointer (some ⟨gl, 0, none⟩)) rfl (by kernel_rfl) (by kernel_rfl) (by kernel_rfl) (fun _ _ _ h => h) (Or.inl ⟨by rfl, fun w _ => by go_simp⟩) hS ?_
          try simp only [Act.put, nz0, nz1, nz2, nz3, nz4, nz5]
          refine wpAnyH_take (i := 26) (v := .pointer (some ⟨gm, 0, none⟩)) rfl (by kernel_rfl) (by kernel_rfl) (by kernel_rfl) (fun _ _ _ h => h) (Or.inl ⟨by rfl, fun w _ => by go_simp⟩) hS ?_
          try simp only [Act.put, nz0, nz1, nz2, nz3, nz4, nz5]
          refine wpAnyH_take (i := 27) (v := .pointer (some ⟨gm, 0, none⟩)) rfl (by kernel_rfl) (by kernel_rfl) (by kernel_rfl) (fun _ _ _ h => h) (Or.inl ⟨by rfl, fun w _ => by go_simp⟩) hS ?_
          try simp only [Act.put, nz0, nz1, nz2, nz3, nz4, nz5]
          refine wpAnyH_take (i := 28) (v := .pointer (some ⟨gm, 4, none⟩)) rfl (by kernel_rfl) (by kernel_rfl) (by kernel_rfl) (fun _ _ _ h => h) (Or.inl ⟨by rfl, fun w _ => by go_simp⟩) hS ?_
          try simp only [Act.put, nz0, nz1, nz2, nz3, nz4, nz5]
          refine wpAnyH_take (i := 29) (v := .int .u32 m.first) rfl (by kernel_rfl) (by kernel_rfl) (by kernel_rfl) (fun _ _ _ h => h) (Or.inl ⟨by rfl, fun w h => by have c := row_at h.1 4 _ rfl; go_simp⟩) hS ?_
          try simp only [Act.put, nz0, nz1, nz2, nz3, nz4, nz5]
          refine wpAnyH_ready (rs := [25]) (by kernel_rfl) (by simp) ?_
          refine AllReadyH.cons rfl (fun K hK => ?_) AllReadyH.nil
          go_simp
          go_at_call 27
          refine Calls.mono (HE5.out _ hS.2.2) ?_
          rintro e w5_25 ⟨rfl, hcb⟩
          refine hK.out _ _ (⟨hS.1.below hcb hS.1.lt, hS.2.1.below hcb hS.2.1.lt, hS.2.2.trans (hcb.mono hS.2.2.size)⟩) fun hS => ?_
          try simp only [Act.put, nz0, nz1, nz2, nz3, nz4, nz5]
          clear hcb
          refine wpAnyH_take (i := 30) (v := .bool false) rfl (by kernel_rfl) (by kernel_rfl) (by kernel_rfl) (fun _ _ _ h => h) (Or.inl ⟨by rfl, fun w _ => by go_simp⟩) hS ?_
          try simp only [Act.put, nz0, nz1, nz2, nz3, nz4, nz5]
          refine wpAnyH_take (i := 31) (v := .bool false) rfl (by kernel_rfl) (by kernel_rfl) (by kernel_rfl) (fun _ _ _ h => h) (Or.inl ⟨by rfl, fun w _ => by go_simp⟩) hS ?_
          try simp only [Act.put, nz0, nz1, nz2, nz3, nz4, nz5]
          refine wpAnyH_take (i := 32) (v := .bool false) rfl (by kernel_rfl) (by kernel_rfl) (by kernel_rfl) (fun _ _ _ h => h) (Or.inl ⟨by rfl, fun w _ => by go_simp⟩) hS ?_
          try simp only [Act.put, nz0, nz1, nz2, nz3, nz4, nz5]
          refine wpAnyH_take (i := 33) (v := .pointer (some ⟨gd, 0, none⟩)) rfl (by kernel_rfl) (by kernel_rfl) (by kernel_rfl) (fun _ _ _ h => h) (Or.inl ⟨by rfl, fun w _ => by go_simp⟩) hS ?_
          try simp only [Act.put, nz0, nz1, nz2, nz3, nz4, nz5]
          refine wpAnyH_take (i := 35) (v := .pointer (some ⟨r, 0, none⟩)) rfl (by kernel_rfl) (by kernel_rfl) (by kernel_rfl) (fun _ _ _ h => h) (Or.inl ⟨by rfl, fun w _ => by go_simp⟩) hS ?_
          try simp only [Act.put, nz0, nz1, nz2, nz3, nz4, nz5]
          refine wpAnyH_take (i := 36) (v := .pointer (some ⟨r, 0, none⟩)) rfl (by kernel_rfl) (by kernel_rfl) (by kernel_rfl) (fun _ _ _ h => h) (Or.inl ⟨by rfl, fun w _ => by go_simp⟩) hS ?_
          try simp only [Act.put, nz0, nz1, nz2, nz3, nz4, nz5]
          refine wpAnyH_take (i := 37) (v := .pointer (some ⟨r, 5, none⟩)) rfl (by kernel_rfl) (by kernel_rfl) (by kernel_rfl) (fun _ _ _ h => h) (Or.inl ⟨by rfl, fun w _ => by go_simp⟩) hS ?_
          try simp only [Act.put, nz0, nz1, nz2, nz3, nz4, nz5]
          refine wpAnyH_take (i := 38) (v := .int .i64 R.ops) rfl (by kernel_rfl) (by kernel_rfl) (by kernel_rfl) (fun _ _ _ h => h) (Or.inl ⟨by rfl, fun w h => by have c := row_at h.2.1 5 _ rfl; go_simp⟩) hS ?_
          try simp only [Act.put, nz0, nz1, nz2, nz3, nz4, nz5]
          refine wpAnyH_ready (rs := [34]) (by kernel_rfl) (by simp) ?_
          refine AllReadyH.cons rfl (fun K hK => ?_) AllReadyH.nil
          go_simp
          go_at_call 28
          refine Calls.mono (HE6.out _ hS.2.2) ?_
          rintro e w6_34 ⟨rfl, hcb⟩
          refine hK.out _ _ (⟨hS.1.below hcb hS.1.lt, hS.2.1.below hcb hS.2.1.lt, hS.2.2.trans (hcb.mono hS.2.2.size)⟩) fun hS => ?_
          try simp only [Act.put, nz0, nz1, nz2, nz3, nz4, nz5]
          clear hcb
          refine wpAnyH_take (i := 39) (v := .bool false) rfl (by kernel_rfl) (by kernel_rfl) (by kernel_rfl) (fun _ _ _ h => h) (Or.inl ⟨by rfl, fun w _ => by go_simp⟩) hS ?_
          try simp only [Act.put, nz0, nz1, nz2, nz3, nz4, nz5]
          refine wpAnyH_take (i := 40) (v := .bool false) rfl (by kernel_rfl) (by kernel_rfl) (by kernel_rfl) (fun _ _ _ h => h) (Or.inl ⟨by rfl, fun w _ => by go_simp⟩) hS ?_
          try simp only [Act.put, nz0, nz1, nz2, nz3, nz4, nz5]
          refine wpAnyH_done (by kernel_rfl) ?_ _
          go_wp2
          go_roundw
          case rel => exact ⟨k + 1, by omega, by go_num, HLPn.out _ hS.2.2⟩
          case measure => simp [intOf]; omega
        · have hk60' : ¬ (k : Int) < 60 := by omega
          have hBD := hLP.bd
          clear hLP
          go_upto_region 36 with fail
          obtain ⟨d, R, L, v1, v2, v3, M, N, hD, hR, hRel, hB, hdn⟩ := hBD
          go_wp2
          go_loopw [22] (fun i wq => ∃ (b : Nat), b ≤ 40 ∧ i = .int .i64 b ∧ Below wr.heap.size wr wq) (fun i _ => 40 - (intOf i).toNat)
          case atStart => exact ⟨0, by omega, rfl, Below.refl _ _⟩
          case round =>
            rename World => wq
            obtain ⟨b, hb, rfl, hq⟩ := hrel
            by_cases hb40 : b < 40
            · have hb' : (b : Int) < 40 := by omega
              have hbb : 0 ≤ (b : Int) ∧ (b : Int) < d.n := ⟨by omega, by rw [hdn]; omega⟩
              have hwb : IntKind.i64.wrap ((b : Int) + 1) = (b : Int) + 1 := by rw [IntKind.wrap_i64]; omega
              have hl1 := (Dsk.seen_length hD b hbb).1
              have hl2 : (d.sure.block b).length = 256 := by have h9 := kept_len hR.oks (b : Int); rw [hRel.kept] at h9; exact h9
              have HS1 : Hid (∀ wx, Below wr.heap.size wr wx → Calls Try.prog 29 #[.pointer (some ⟨gd, 0, none⟩), .int .i64 b] wx fun e w' => e = .returned (.agg (bs (d.seen b))) ∧ Below wx.heap.size wx w') := fun wx h => seen_in (hD.below h) b hbb
              have HS2 : Hid (∀ wx, Below wr.heap.size wr wx → Calls Try.prog 30 #[.pointer (some ⟨r, 0, none⟩), .int .i64 b] wx fun e w' => e = .returned (.agg (bs (d.seen b))) ∧ Below wx.heap.size wx w') := fun wx h => by rw [← hRel.seen]; exact rseen_any (hR.below h) b
              have HS3 : Hid (∀ wx, Below wr.heap.size wr wx → Calls Try.prog 31 #[.pointer (some ⟨gd, 0, none⟩), .int .i64 b] wx fun e w' => e = .returned (.agg (bs (d.sure.block b))) ∧ Below wx.heap.size wx w') := fun wx h => sure_in (hD.below h) b hbb
              have HS4 : Hid (∀ wx, Below wr.heap.size wr wx → Calls Try.prog 32 #[.pointer (some ⟨r, 0, none⟩), .int .i64 b] wx fun e w' => e = .returned (.agg (bs (d.sure.block b))) ∧ Below wx.heap.size wx w') := fun wx h => by rw [← hRel.kept]; exact rkept_any (hR.below h) b
              have he1 := equal56 (d.seen b) (d.seen b) hl1 hl1
              have he2 := equal56 (d.sure.block b) (d.sure.block b) hl2 hl2
              generalize d.seen b = X1 at HS1 HS2 he1
              generalize d.sure.block b = X2 at HS3 HS4 he2
              simp only [decide_true] at he1 he2
              clear hl1 hl2
              go_wp2_with (first
                | (go_at_call 29; refine Calls.mono (HS1.out _ hq) ?_; clear HS1; rintro e y1 ⟨rfl, c1⟩; have p1 := hq.trans (c1.mono hq.size))
                | (go_at_call 30; refine Calls.mono (HS2.out _ p1) ?_; clear HS2; rintro e y2 ⟨rfl, c2⟩; have p2 := p1.trans (c2.mono p1.size))
                | (go_at_call 31; refine Calls.mono (HS3.out _ p2) ?_; clear HS3; rintro e y3 ⟨rfl, c3⟩; have p3 := p2.trans (c3.mono p2.size))
                | (go_at_call 32; refine Calls.mono (HS4.out _ p3) ?_; clear HS4; rintro e y4 ⟨rfl, c4⟩; have p4 := p3.trans (c4.mono p3.size)))
              go_roundw
              case rel => exact ⟨b + 1, by omega, by go_num, p4⟩
              case measure => simp [intOf]; omega
            · have hb' : ¬ (b : Int) < 40 := by omega
              have b9 := hB.trans (hq.mono hB.size)
              clear hD hR hRel
              go_wp2_with (go_at_call 10; refine Calls.mono (HA.out _) ?_; clear HA; rintro ex wz ⟨rfl, hzz⟩)
              go_ret
              exact ⟨rfl, b9.trans (hzz.mono b9.size)⟩
      · have hkS' : ¬ (k : Int) < (NS : Int) := by omega
        have hBD := hLP.bd
        clear hLP
        go_upto_region 36 with fail
        obtain ⟨d, R, L, v1, v2, v3, M, N, hD, hR, hRel, hB, hdn⟩ := hBD
        go_wp2
        go_loopw [22] (fun i wq => ∃ (b : Nat), b ≤ 40 ∧ i = .int .i64 b ∧ Below wr.heap.size wr wq) (fun i _ => 40 - (intOf i).toNat)
        case atStart => exact ⟨0, by omega, rfl, Below.refl _ _⟩
        case round =>
          rename World => wq
          obtain ⟨b, hb, rfl, hq⟩ := hrel
          by_cases hb40 : b < 40
          · have hb' : (b : Int) < 40 := by omega
            have hbb : 0 ≤ (b : Int) ∧ (b : Int) < d.n := ⟨by omega, by rw [hdn]; omega⟩
            have hwb : IntKind.i64.wrap ((b : Int) + 1) = (b : Int) + 1 := by rw [IntKind.wrap_i64]; omega
            have hl1 := (Dsk.seen_length hD b hbb).1
            have hl2 : (d.sure.block b).length = 256 := by have h9 := kept_len hR.oks (b : Int); rw [hRel.kept] at h9; exact h9
            have HS1 : Hid (∀ wx, Below wr.heap.size wr wx → Calls Try.prog 29 #[.pointer (some ⟨gd, 0, none⟩), .int .i64 b] wx fun e w' => e = .returned (.agg (bs (d.seen b))) ∧ Below wx.heap.size wx w') := fun wx h => seen_in (hD.below h) b hbb
            have HS2 : Hid (∀ wx, Below wr.heap.size wr wx → Calls Try.prog 30 #[.pointer (some ⟨r, 0, none⟩), .int .i64 b] wx fun e w' => e = .returned (.agg (bs (d.seen b))) ∧ Below wx.heap.size wx w') := fun wx h => by rw [← hRel.seen]; exact rseen_any (hR.below h) b
            have HS3 : Hid (∀ wx, Below wr.heap.size wr wx → Calls Try.prog 31 #[.pointer (some ⟨gd, 0, none⟩), .int .i64 b] wx fun e w' => e = .returned (.agg (bs (d.sure.block b))) ∧ Below wx.heap.size wx w') := fun wx h => sure_in (hD.below h) b hbb
            have HS4 : Hid (∀ wx, Below wr.heap.size wr wx → Calls Try.prog 32 #[.pointer (some ⟨r, 0, none⟩), .int .i64 b] wx fun e w' => e = .returned (.agg (bs (d.sure.block b))) ∧ Below wx.heap.size wx w') := fun wx h => by rw [← hRel.kept]; exact rkept_any (hR.below h) b
            have he1 := equal56 (d.seen b) (d.seen b) hl1 hl1
            have he2 := equal56 (d.sure.block b) (d.sure.block b) hl2 hl2
            generalize d.seen b = X1 at HS1 HS2 he1
            generalize d.sure.block b = X2 at HS3 HS4 he2
            simp only [decide_true] at he1 he2
            clear hl1 hl2
            go_wp2_with (first
              | (go_at_call 29; refine Calls.mono (HS1.out _ hq) ?_; clear HS1; rintro e y1 ⟨rfl, c1⟩; have p1 := hq.trans (c1.mono hq.size))
              | (go_at_call 30; refine Calls.mono (HS2.out _ p1) ?_; clear HS2; rintro e y2 ⟨rfl, c2⟩; have p2 := p1.trans (c2.mono p1.size))
              | (go_at_call 31; refine Calls.mono (HS3.out _ p2) ?_; clear HS3; rintro e y3 ⟨rfl, c3⟩; have p3 := p2.trans (c3.mono p2.size))
              | (go_at_call 32; refine Calls.mono (HS4.out _ p3) ?_; clear HS4; rintro e y4 ⟨rfl, c4⟩; have p4 := p3.trans (c4.mono p3.size)))
            go_roundw
            case rel => exact ⟨b + 1, by omega, by go_num, p4⟩
            case measure => simp [intOf]; omega
          · have hb' : ¬ (b : Int) < 40 := by omega
            have b9 := hB.trans (hq.mono hB.size)
            clear hD hR hRel
            go_wp2_with (go_at_call 10; refine Calls.mono (HA.out _) ?_; clear HA; rintro ex wz ⟨rfl, hzz⟩)
            go_ret
            exact ⟨rfl, b9.trans (hzz.mono b9.size)⟩
set_option maxRecDepth 100000 in
theorem lifted (os : Os) (started : os.Started) (H : Type) (enc : TypeId × Value → H) :
    ReturnsInHanded {} Try.checked os 3 .any (Rows.logPlaysSpec.pre6 enc Try.prog Try.f3 Rows.logPlaysRow.domain false) (Rows.logPlaysSpec.post enc Try.prog Try.f3 false true false false) := by
  refine returnsInHanded_of_change_sized (C := Try.checked) own started (by kernel_rfl) Try.func3
    (ChangeSpec.witness6 (enc := enc) (C := Try.checked) false ⟨#[], #[.int .i64 0, .slice none 0 0, .slice none 0 0, .int .u32 0, .int .u64 0], []⟩ 8 (by kernel_rfl) (by kernel_rfl) (by kernel_rfl) (by kernel_rfl)) ?_
  intro W base args ds gs before hval0 hW hcnd hsz0 _
  have hval : ∀ (j : Nat) t v, Try.f3.params[j]? = some t → args[j]? = some v → Value.okWide Try.prog W .any base t v := hval0
  have hW' := hW
  obtain ⟨p, q, hA0, hV, rfl, hfz, hnd⟩ := hW
  have hA : DataW.TrodAll enc Try.prog W 0 (fun _ => true) true Try.f3.params.toList args.toList ds p := hA0
  have hsz : (DataW.weightsEach Try.prog (Try.f3.params.toList ++ []) (ds ++ gs)).all (· ≤ reachBytes) = true := hsz0
  rw [Try.params3] at hA hval hsz
  obtain ⟨v0, vs0, d0, ds0, p0, q0, hargs, rfl, rfl, h0, r0⟩ := trodAll_cons hA
  obtain ⟨v1, vs1, d1, ds1, p1, q1, rfl, rfl, rfl, h1, r1⟩ := trodAll_cons r0
  obtain ⟨v2, vs2, d2, ds2, p2, q2, rfl, rfl, rfl, h2, r2⟩ := trodAll_cons r1
  obtain ⟨v3, vs3, d3, ds3, p3, q3, rfl, rfl, rfl, h3, r3⟩ := trodAll_cons r2
  obtain ⟨v4, vs4, d4, ds4, p4, q4, rfl, rfl, rfl, h4, r4⟩ := trodAll_cons r3
  obtain ⟨rfl, rfl, rfl⟩ := trodAll_nil r4
  obtain rfl : args = #[v0, v1, v2, v3, v4] := by cases args; simp_all
  obtain ⟨rfl, rfl⟩ := trodVars_none hV
  simp only [List.append_nil] at hsz
  have hlt : ∀ x ∈ (p0 ++ (p1 ++ (p2 ++ (p3 ++ (p4 ++ []))))), x.block < W.heap.size := fun x hx => hW'.lt x (by simpa using hx)
  have hw0 : (d0.weights Try.prog 3).all (· ≤ reachBytes) = true := List.all_eq_true.2 fun m hm => List.all_eq_true.1 hsz m (by simp [DataW.weightsEach, hm])
  have hw1 : (d1.weights Try.prog 22).all (· ≤ reachBytes) = true := List.all_eq_true.2 fun m hm => List.all_eq_true.1 hsz m (by simp [DataW.weightsEach, hm])
  have hw2 : (d2.weights Try.prog 23).all (· ≤ reachBytes) = true := List.all_eq_true.2 fun m hm => List.all_eq_true.1 hsz m (by simp [DataW.weightsEach, hm])
  have hw3 : (d3.weights Try.prog 24).all (· ≤ reachBytes) = true := List.all_eq_true.2 fun m hm => List.all_eq_true.1 hsz m (by simp [DataW.weightsEach, hm])
  have hw4 : (d4.weights Try.prog 25).all (· ≤ reachBytes) = true := List.all_eq_true.2 fun m hm => List.all_eq_true.1 hsz m (by simp [DataW.weightsEach, hm])
  have k0 := h0
  have k1 := h1
  have k2 := h2
  have k3 := h3
  have k4 := h4
  obtain ⟨a0, rfl, rfl, rfl, w0⟩ := open_int Try.underlying3 (hval 0 3 v0 rfl rfl) h0
  obtain ⟨a1, w1⟩ := open_calls (hval 1 22 v1 rfl rfl) h1 hw1
  obtain ⟨a2, w2⟩ := open_starts (hval 2 23 v2 rfl rfl) h2 hw2
  obtain ⟨a3, rfl, rfl, rfl, w3⟩ := open_int Try.underlying24 (hval 3 24 v3 rfl rfl) h3
  obtain ⟨a4, rfl, rfl, rfl, w4⟩ := open_int Try.underlying25 (hval 4 25 v4 rfl rfl) h4
  clear hA0 hval0
  simp only [List.append_nil] at hW'
  refine (walk W a0 v1 a1 v2 a2 a3 a4 w0 w1 w2 w3 w4).mono fun e W' ⟨he, hg⟩ => ?_
  subst he
  exact ⟨_, rfl, ⟨_, _, _, [], ([] ++ (p1 ++ (p2 ++ ([] ++ ([] ++ []))))), [], hW', (trodAll_cons_mk (shut_bool Try.underlying4 _) trodAll_mk0), (trodAll_cons_mk (Below.trod laidOut (by kernel_rfl) (of_decide_eq_true (by kernel_rfl)) k0 hg (fun x hx => (nomatch hx))) (trodAll_cons_mk (Below.trod laidOut (by kernel_rfl) (of_decide_eq_true (by kernel_rfl)) k1 hg (fun x hx => hlt x (by simp [hx]))) (trodAll_cons_mk (Below.trod laidOut (by kernel_rfl) (of_decide_eq_true (by kernel_rfl)) k2 hg (fun x hx => hlt x (by simp [hx]))) (trodAll_cons_mk (Below.trod laidOut (by kernel_rfl) (of_decide_eq_true (by kernel_rfl)) k3 hg (fun x hx => (nomatch hx))) (trodAll_cons_mk (Below.trod laidOut (by kernel_rfl) (of_decide_eq_true (by kernel_rfl)) k4 hg (fun x hx => (nomatch hx))) trodAll_mk0))))), rfl,
    hg.frame _, fun h => by cases h⟩⟩
theorem over : Rows.logPlaysRow.holds Try.pinned (OpenSpec.ofChange Rows.logPlaysSpec) :=
  OpenClaim.holds_of_wide 3 Try.f3 rfl rfl rfl rfl rfl rfl rfl ⟨rfl, rfl, rfl, rfl, rfl⟩ rfl rfl rfl rfl rfl (by kernel_rfl) Try.func3 (by kernel_rfl)
    (of_decide_eq_true (by kernel_rfl)) (by unfold Func.isWrapper; first | (rw [if_pos (by decide +kernel)]; kernel_rfl) | (rw [if_neg (by decide +kernel)]; exact ⟨rfl, rfl⟩))
    (fun os started H enc _ => lifted os started H enc)
theorem proved : Rows.LogPlaysSaid :=
  over
#print axioms proved
end Go.Proofs.Ytgnedbagelhcbaa.logPlays
