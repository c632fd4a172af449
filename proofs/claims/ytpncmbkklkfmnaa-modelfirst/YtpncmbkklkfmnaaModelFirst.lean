/-
  Proved here: of two transactions that were live together and wrote one page the one that commits last is refused, the other one's writes stay; without a condition.
-/
import Derived.Test.YtpncmbkklkfmnaaMlw
namespace Go.Proofs.Ytpncmbkklkfmnaa.modelFirst
open Go.ChangeShapes Go.WideShapes Go.ChangeAt Go.RowKit
open Go.Deep
set_option linter.unusedVariables false
set_option linter.unusedSimpArgs false

theorem own : ownKnob Try.prog.godebug = none := by kernel_rfl

set_option maxRecDepth 20000

set_option maxHeartbeats 16000000 in
theorem walk (w : World) (v : Value) (cs : List Cal) (page : Int) (a b : ByteArray) (hcs : Cals w v cs) (hpg : (Lit.int .u16 page).wf = true) (ha : a.size ≤ maxLen) (hb : b.size ≤ maxLen) :
    Calls Try.prog 5 #[v, .int .u16 page, .string a, .string b] w fun e w' => e = .returned (.bool true) ∧ Below w.heap.size w w' := by
  have hp := bound_u16 hpg
  have ha' : a.size ≤ 9223372036854775807 := by unfold maxLen at ha; omega
  have hb' : b.size ≤ 9223372036854775807 := by unfold maxLen at hb; omega
  clear hpg ha hb
  obtain ⟨oa, cap, rfl, hcap_oa, hlen_oa, hel_oa⟩ := hcs
  have HEL_oa : Hid (∀ i, i < cs.length → ∃ (a : Addr) (c : Cal), oa = some a ∧ cs[i]? = some c ∧ c.Ok ∧ ∀ j u, c.cells[j]? = some u → w.cell? ((a.add (i * 5)).add j) = some u) := hel_oa
  obtain ⟨n1, HN_oa⟩ : ∃ n1, Hid (Nat.min cs.length 40 = n1) := ⟨_, rfl⟩
  have HSM_oa : Hid (∀ W, Calls Try.prog 11 #[.slice oa cs.length cap] W fun r w' => r = .returned (.slice oa n1 cap) ∧ w' = W) := fun W => by
    have := small_any _ oa cs.length cap rfl hcap_oa (by omega) W
    rw [HN_oa.out] at this
    simpa using this
  have hn40_oa : n1 ≤ 40 := by rw [← HN_oa.out]; exact Nat.min_le_right _ _
  have HNL_oa : Hid (n1 ≤ cs.length) := by rw [← HN_oa.out]; exact Nat.min_le_left _ _
  clear hel_oa hlen_oa hcap_oa
  have HAW : Hid (∀ W, Calls Try.prog 10 #[] W fun r w' => r = .returned (.bool true) ∧ Below W.heap.size W w') := fun W => awake_any W
  have HNW : Hid (∀ W, Calls Try.prog 9 #[.int .i64 8, .int .u32 1073741824] W fun e w' => NewM W 8 1073741824 e w') := fun W => new_some 8 (by decide) (by decide) 1073741824 (by decide) (by decide) W
  obtain ⟨PP, HPP⟩ : ∃ PP : Ending → World → Prop, Hid (PP = fun e w' => e = .returned (.bool true) ∧ Below w.heap.size w w') := ⟨_, rfl⟩
  rw [← HPP.out]
  have hz40 := zero40
  have HZS : Hid (Rep.zero.arr.size = 67) := rz
  obtain ⟨Z, HZD⟩ : ∃ Z, Hid (Rep.zero.arr = Z) := ⟨_, rfl⟩
  rw [HZD.out] at hz40 HZS
  have hz44 := zero44
  have HZ4 : Hid (Ver.zero.arr.size = 65) := vz
  obtain ⟨Z4, HZD4⟩ : ∃ Z4, Hid (Ver.zero.arr = Z4) := ⟨_, rfl⟩
  rw [HZD4.out] at hz44 HZ4
  have hn := HNW.out w
  have hpg0 : 0 ≤ page % 8 := by omega
  have hpg8 : page % 8 < 8 := by omega
  go_enter Try.func5, Try.ntmps5
  go_upto_region 5 with (first
    | (go_at_call 9; refine Calls.mono hn ?_; clear hn; rintro e W1 hnm; obtain ⟨g, rfl, ms0⟩ := MS.start hnm; clear hnm; have hs := HSM_oa.out W1)
    | (go_at_call 11; refine Calls.mono hs ?_; clear hs; rintro e W2 ⟨he, hww⟩; rw [hww]; clear hww W2; obtain rfl := he))
  generalize (fun k => w.heap.size ≤ k ∧ k < W1.heap.size) = F0 at ms0
  clear HSM_oa
  go_loopw [11, 24] (fun p i wr => ∃ (j : Nat) (s : St) (F : Nat → Prop), i = .int .i64 j ∧ j ≤ n1 ∧ MS w F g s wr ∧ Hid (Ahead 8 1073741824 j s)) (fun _ i _ => n1 - (intOf i).toNat)
  case atStart => exact ⟨0, _, _, rfl, Nat.zero_le _, ms0, Ahead.start 8 1073741824⟩
  case round =>
    clear ms0
    obtain ⟨j, s, F, rfl, hj, ms, HA⟩ := hrel
    by_cases hlt : (j : Int) < n1
    · obtain ⟨a, c, rfl, hcj, hcok, hcell⟩ := HEL_oa.out j (by have := HNL_oa.out; omega)
      have hcell2 : ∀ i u, c.cells[i]? = some u → wr.cell? ((a.add (j * 5)).add i) = some u := fun i u h => cell_keep (hcell i u h) ms.bel
      have hz35 := zero35
      have rn : Row (wr.alloc (.cells #[.int .u8 0, .int .u64 0, .int .u16 0, .int .i64 0, .string ⟨#[]⟩] 35)) wr.heap.size #[.int .u8 0, .int .u64 0, .int .u16 0, .int .i64 0, .string ⟨#[]⟩] 35 := Row.new _ _ _
      obtain ⟨CE, HCE⟩ : ∃ CE, Hid (c.arr = CE) := ⟨_, rfl⟩
      have HAR : Hid (c.cells.toArray = CE) := by rw [← HCE.out]; rfl
      have HCS : Hid (CE.size = 5) := by rw [← HCE.out]; rfl
      have HCO : Hid (CE.all (·.oneCell') = true) := by rw [← HCE.out]; exact c.one
      have HC0 : Hid (CE[0]? = some (.int .u8 c.kind)) := by rw [← HCE.out]; rfl
      have HC1 : Hid (CE[1]? = some (.int .u64 c.txn)) := by rw [← HCE.out]; rfl
      have HOK : Hid c.Ok := hcok
      have b3 : Below wr.heap.size wr ((wr.alloc (.cells #[.int .u8 0, .int .u64 0, .int .u16 0, .int .i64 0, .string ⟨#[]⟩] 35)).setRow wr.heap.size CE) := below_setRow ((Below.refl _ _).alloc (Nat.le_refl _) _) (Nat.le_refl _) _
      have rX : Row ((wr.alloc (.cells #[.int .u8 0, .int .u64 0, .int .u16 0, .int .i64 0, .string ⟨#[]⟩] 35)).setRow wr.heap.size CE) wr.heap.size CE 35 := rn.set _
      have nX := ms.fresh
      have ms3 := ms.below b3
      have hj1 : ((j : Int) + 1) = ((j + 1 : Nat) : Int) := by omega
      have hw1 : IntKind.i64.wrap ((j : Int) + 1) = ((j + 1 : Nat) : Int) := by rw [IntKind.wrap_i64]; omega
      clear hj1 hcell hcj hcok ms
      have tl : Hid (1 = 1) := rfl
      have ts : Hid (1 = 1) := rfl
      go_upto_region 7 with (first
        | (have hh := tl; clear hh tl; refine wpList_load_any rfl 35 (.tmp 26) rfl _ rfl c.cells _ hcell2 Try.underlying35 rfl (by rw [size35]; rfl) ?_; rw [HAR.out])
        | (have hh := ts; clear hh ts; refine store_cells rfl 35 (.tmp 11) (.tmp 27) rfl wr.heap.size CE rfl rfl 35 _ rn 5 size35 rfl HCS.out HCO.out ?_))
      clear rn hcell2 b3 hz35
      generalize (wr.alloc (.cells #[.int .u8 0, .int .u64 0, .int .u16 0, .int .i64 0, .string ⟨#[]⟩] 35)).setRow wr.heap.size CE = W3 at rX ms3  ⊢
      generalize wr.heap.size = X at rX nX ⊢
      have e0 := row_at rX 0 _ HC0.out
      have e1 := row_at rX 1 _ HC1.out
      by_cases hk : c.kind < 7
      · have hd := ms3.call c HOK.out (by have := HA.out.begun; have := hn40_oa; omega)
        rw [HCE.out] at hd
        have tl : Hid (1 = 1) := rfl
        have HK : Hid (c.kind < 7) := hk
        go_wp2_with (first
          | (have hh := tl; clear hh tl; refine load_cells rfl 35 (.tmp 11) rfl X rfl 35 CE rX 5 Try.underlying35 rfl size35 HCS.out ?_)
          | (go_at_call 12; refine Calls.mono hd ?_; clear hd; rintro e W4 ⟨he, hst⟩; obtain rfl := he))
        obtain ⟨F4, ms4, of4, ff4⟩ := hst
        go_roundw
        case rel => exact ⟨j + 1, _, F4, by first | rfl | simp, by omega, ms4, HA.out.step c HK.out⟩
        case measure => simp only [intOf]; omega
      · go_wp2
        go_roundw
        case rel => exact ⟨j + 1, _, F, by first | rfl | simp, by omega, ms3, HA.out.mono (by omega)⟩
        case measure => simp only [intOf]; omega
    · go_upto_region 11 with fail
      generalize page % 8 = pg at hpg0 hpg8 ⊢
      have HOK : Hid s.Ok := ms.at_.ok
      have hcx : Calls Try.prog 12 #[.pointer (some ⟨g, 0, none⟩), .agg #[.int .u8 0, .int .u64 0, .int .u16 0, .int .i64 0, .string ⟨#[]⟩]] wr fun r w' => r = .returned (.agg (doR s cB).arr) ∧ Step w F g (doS s cB) wr w' := ms.call cB aw_ok.1 (by have := HA.out.begun; have := hn40_oa; omega)
      by_cases hl8 : s.live.length < 8
      · obtain ⟨hb1, hb2, hb3, hb4, hb5, hb6, hb7⟩ := begun_has HOK.out HA.out.cl hl8
        rw [hb1] at hcx
        have HH1 : Hid (Has (doS s cB) (s.begun + 1) s.last []) := hb2
        have HQ1 : Hid ((doS s cB).pages = s.pages ∧ (doS s cB).last = s.last ∧ (doS s cB).max = s.max ∧ (doS s cB).begun = s.begun + 1) := ⟨hb4, hb5, hb6, hb7⟩
        have HA2 : Hid (Ahead 8 1073741824 (n1 + 1) (doS s cB)) := (HA.out.step cB (by decide)).mono (by omega)
        obtain ⟨n0, HN0⟩ : ∃ n0, Hid (s.begun + 1 = n0) := ⟨_, rfl⟩
        obtain ⟨st, HST⟩ : ∃ st, Hid (s.last = st) := ⟨_, rfl⟩
        obtain ⟨s1, HS1⟩ : ∃ s1, Hid (doS s cB = s1) := ⟨_, rfl⟩
        have hnn : 0 ≤ n0 ∧ n0 ≤ 1000 := by rw [← HN0.out]; have := HA.out.begun; have := HOK.out.pos; have := hn40_oa; omega
        have hst0 : 0 ≤ st ∧ st ≤ 1000 := by rw [← HST.out]; have := HA.out.last; have := HOK.out.lo; have := hn40_oa; omega
        rw [HN0.out, HST.out] at hcx HH1
        rw [HS1.out] at hcx HH1 HQ1 HA2
        obtain ⟨RX, HDRX⟩ : ∃ R, Hid ((Rep.mk 0 n0 st (zs 64)).arr = R) := ⟨_, rfl⟩
        have HRX : Hid (RX.size = 67 ∧ RX.all (·.oneCell') = true ∧ RX[0]? = some (.int .i64 (Rep.mk 0 n0 st (zs 64)).err) ∧ RX[1]? = some (.int .u64 (Rep.mk 0 n0 st (zs 64)).txn) ∧ RX[2]? = some (.int .u32 (Rep.mk 0 n0 st (zs 64)).ts)) := by rw [← HDRX.out]; exact ⟨Rep.arr_size (zs_length _), Rep.one _, rfl, rfl, rfl⟩
        rw [HDRX.out] at hcx
        clear hb1 hb2 hb3 hb4 hb5 hb6 hb7
        have hd := hcx
        have ts : Hid (1 = 1) := rfl
        go_upto_region 12 with (first
          | (go_at_call 12; refine Calls.mono hd ?_; clear hd; rintro e X12 ⟨he, hst⟩; obtain rfl := he; have rn : Row (X12.alloc (.cells Z 40)) X12.heap.size Z 40 := Row.new _ _ _)
          | (have hh := ts; clear hh ts; refine store_cells rfl 40 (.tmp 12) (.tmp 39) rfl X12.heap.size RX rfl rfl 40 _ rn 67 size40 HZS.out HRX.out.1 HRX.out.2.1 ?_))
        obtain ⟨F12, ms1, of12, ff12⟩ := hst
        have bn12 : Below X12.heap.size X12 ((X12.alloc (.cells Z 40)).setRow X12.heap.size RX) := below_setRow ((Below.refl _ _).alloc (Nat.le_refl _) _) (Nat.le_refl _) _
        have l_k12 : Loc F12 ((X12.alloc (.cells Z 40)).setRow X12.heap.size RX) X12.heap.size RX 40 := ⟨rn.set _, ms1.fresh⟩
        have ms1 := ms1.below bn12
        clear of12 ff12 rn bn12
        generalize (X12.alloc (.cells Z 40)).setRow X12.heap.size RX = Y12 at l_k12  ms1 ⊢
        generalize X12.heap.size = k12 at l_k12 ⊢
        clear hcx ms
        have HOK1 : Hid s1.Ok := ms1.at_.ok
        have hcx : Calls Try.prog 12 #[.pointer (some ⟨g, 0, none⟩), .agg #[.int .u8 0, .int .u64 0, .int .u16 0, .int .i64 0, .string ⟨#[]⟩]] Y12 fun r w' => r = .returned (.agg (doR s1 cB).arr) ∧ Step w F12 g (doS s1 cB) Y12 w' := ms1.call cB aw_ok.1 (by have := HA2.out.begun; have := hn40_oa; omega)
        by_cases hl9 : s1.live.length < 8
        · obtain ⟨hb1, hb2, hb3, hb4, hb5, hb6, hb7⟩ := begun_has HOK1.out HA2.out.cl hl9
          rw [hb1] at hcx
          have HH2 : Hid (Has (doS s1 cB) (s1.begun + 1) s1.last []) := hb2
          have HH12 : Hid (Has (doS s1 cB) n0 st []) := hb3 _ _ _ HH1.out
          have HQ2 : Hid ((doS s1 cB).pages = s1.pages ∧ (doS s1 cB).last = s1.last ∧ (doS s1 cB).max = s1.max ∧ (doS s1 cB).begun = s1.begun + 1) := ⟨hb4, hb5, hb6, hb7⟩
          have HA3 : Hid (Ahead 8 1073741824 (n1 + 2) (doS s1 cB)) := HA2.out.step cB (by decide)
          have HL1 : Hid (s1.last = st) := by show _ = _; rw [HQ1.out.2.1, HST.out]
          have HB1 : Hid (s1.begun + 1 = n0 + 1) := by show _ = _; rw [HQ1.out.2.2.2, HN0.out]
          obtain ⟨s2, HS2⟩ : ∃ s2, Hid (doS s1 cB = s2) := ⟨_, rfl⟩
          rw [HL1.out, HB1.out] at hcx HH2
          rw [HS2.out] at hcx HH2 HH12 HQ2 HA3
          obtain ⟨n2, HN2⟩ : ∃ n2, Hid (n0 + 1 = n2) := ⟨_, rfl⟩
          have hn2 : 0 ≤ n2 ∧ n2 ≤ 1001 ∧ n0 ≠ n2 := by rw [← HN2.out]; omega
          rw [HN2.out] at hcx HH2
          obtain ⟨RY, HDRY⟩ : ∃ R, Hid ((Rep.mk 0 n2 st (zs 64)).arr = R) := ⟨_, rfl⟩
          have HRY : Hid (RY.size = 67 ∧ RY.all (·.oneCell') = true ∧ RY[0]? = some (.int .i64 (Rep.mk 0 n2 st (zs 64)).err) ∧ RY[1]? = some (.int .u64 (Rep.mk 0 n2 st (zs 64)).txn) ∧ RY[2]? = some (.int .u32 (Rep.mk 0 n2 st (zs 64)).ts)) := by rw [← HDRY.out]; exact ⟨Rep.arr_size (zs_length _), Rep.one _, rfl, rfl, rfl⟩
          rw [HDRY.out] at hcx
          clear hb1 hb2 hb3 hb4 hb5 hb6 hb7
          have hd := hcx
          have ts : Hid (1 = 1) := rfl
          go_upto_region 13 with (first
            | (go_at_call 12; refine Calls.mono hd ?_; clear hd; rintro e X13 ⟨he, hst⟩; obtain rfl := he; have rn : Row (X13.alloc (.cells Z 40)) X13.heap.size Z 40 := Row.new _ _ _)
            | (have hh := ts; clear hh ts; refine store_cells rfl 40 (.tmp 13) (.tmp 42) rfl X13.heap.size RY rfl rfl 40 _ rn 67 size40 HZS.out HRY.out.1 HRY.out.2.1 ?_))
          obtain ⟨F13, ms2, of13, ff13⟩ := hst
          have bn13 : Below X13.heap.size X13 ((X13.alloc (.cells Z 40)).setRow X13.heap.size RY) := below_setRow ((Below.refl _ _).alloc (Nat.le_refl _) _) (Nat.le_refl _) _
          have l_k13 : Loc F13 ((X13.alloc (.cells Z 40)).setRow X13.heap.size RY) X13.heap.size RY 40 := ⟨rn.set _, ms2.fresh⟩
          have l_k12 := (l_k12.step of13 ff13).below bn13
          have ms2 := ms2.below bn13
          clear of13 ff13 rn bn13
          generalize (X13.alloc (.cells Z 40)).setRow X13.heap.size RY = Y13 at l_k13 l_k12 ms2 ⊢
          generalize X13.heap.size = k13 at l_k13 ⊢
          clear hcx ms1
          have f0 : Y13.cell? ⟨k12, 0, none⟩ = some (.int .i64 0) := row_at l_k12.1 0 _ HRX.out.2.2.1
          have f1 : Y13.cell? ⟨k13, 0, none⟩ = some (.int .i64 0) := row_at l_k13.1 0 _ HRY.out.2.2.1
          by_cases hla : (a.size : Int) > 64
          · have haw := HAW.out Y13
            go_wp2_with (go_at_call 10; refine Calls.mono haw ?_; clear haw; rintro e W9 ⟨he, hb9⟩; obtain rfl := he)
            rw [HPP.out]
            exact ⟨rfl, ms2.bel.trans (hb9.mono ms2.bel.size)⟩
          · by_cases hlb : (b.size : Int) > 64
            · have haw := HAW.out Y13
              go_wp2_with (go_at_call 10; refine Calls.mono haw ?_; clear haw; rintro e W9 ⟨he, hb9⟩; obtain rfl := he)
              rw [HPP.out]
              exact ⟨rfl, ms2.bel.trans (hb9.mono ms2.bel.size)⟩
            · go_upto_region 15 with fail
              clear f0 f1
              have f2 : Y13.cell? ⟨k12, 1, none⟩ = some (.int .u64 n0) := row_at l_k12.1 1 _ HRX.out.2.2.2.1
              have hp2 : pg < s2.pages.length := by rw [HA3.out.len]; exact hpg8
              have hcx : Calls Try.prog 12 #[.pointer (some ⟨g, 0, none⟩), .agg #[.int .u8 2, .int .u64 n0, .int .u16 pg, .int .i64 0, .string a]] Y13 fun r w' => r = .returned (.agg (doR s2 (cW n0 pg a)).arr) ∧ Step w F13 g (doS s2 (cW n0 pg a)) Y13 w' := ms2.call (cW n0 pg a) (cW_ok a (by omega) (by omega)) (by have := HA3.out.begun; have := hn40_oa; omega)
              obtain ⟨e1, e2, e3, e4, e5, e6⟩ := has_write HH12.out hpg0 hp2 (t := a) (by omega)
              have HH3 : Hid (Has (doS s2 (cW n0 pg a)) n0 st [(pg, wrote (atV (s2.page pg) st).body 0 a)]) := e2
              have HH32 : Hid (Has (doS s2 (cW n0 pg a)) n2 st []) := e3 _ _ _ (fun q => hn2.2.2 q.symm) HH2.out
              have HQ3 : Hid ((doS s2 (cW n0 pg a)).pages = s2.pages ∧ (doS s2 (cW n0 pg a)).last = s2.last ∧ (doS s2 (cW n0 pg a)).max = s2.max) := ⟨e4, e5, e6⟩
              have HA4 : Hid (Ahead 8 1073741824 (n1 + 3) (doS s2 (cW n0 pg a))) := HA3.out.step (cW n0 pg a) (by show (2 : Int) < 7; decide)
              obtain ⟨ba, HBA⟩ : ∃ ba, Hid (wrote (atV (s2.page pg) st).body 0 a = ba) := ⟨_, rfl⟩
              obtain ⟨s3, HS3⟩ : ∃ s3, Hid (doS s2 (cW n0 pg a) = s3) := ⟨_, rfl⟩
              rw [HBA.out] at HH3
              rw [HS3.out] at hcx HH3 HH32 HQ3 HA4
              clear e1 e2 e3 e4 e5 e6
              have hd := hcx
              go_upto_region 16 with (go_at_call 12; refine Calls.mono hd ?_; clear hd; rintro e Y15 ⟨he, hst⟩; obtain rfl := he)
              obtain ⟨F15, ms3, of15, ff15⟩ := hst
              have l_k12 := l_k12.step of15 ff15
              have l_k13 := l_k13.step of15 ff15
              clear of15 ff15
              clear hcx ms2 f2
              have f2 : Y15.cell? ⟨k13, 1, none⟩ = some (.int .u64 n2) := row_at l_k13.1 1 _ HRY.out.2.2.2.1
              have hp3 : pg < s3.pages.length := by rw [HA4.out.len]; exact hpg8
              have hcx : Calls Try.prog 12 #[.pointer (some ⟨g, 0, none⟩), .agg #[.int .u8 2, .int .u64 n2, .int .u16 pg, .int .i64 0, .string b]] Y15 fun r w' => r = .returned (.agg (doR s3 (cW n2 pg b)).arr) ∧ Step w F15 g (doS s3 (cW n2 pg b)) Y15 w' := ms3.call (cW n2 pg b) (cW_ok b (by omega) (by omega)) (by have := HA4.out.begun; have := hn40_oa; omega)
              obtain ⟨e1, e2, e3, e4, e5, e6⟩ := has_write HH32.out hpg0 hp3 (t := b) (by omega)
              have HH4 : Hid (Has (doS s3 (cW n2 pg b)) n2 st [(pg, wrote (atV (s3.page pg) st).body 0 b)]) := e2
              have HH42 : Hid (Has (doS s3 (cW n2 pg b)) n0 st [(pg, ba)]) := e3 _ _ _ hn2.2.2 HH3.out
              have HQ4 : Hid ((doS s3 (cW n2 pg b)).last = st ∧ (doS s3 (cW n2 pg b)).max = 1073741824) := ⟨by rw [e5, HQ3.out.2.1, HQ2.out.2.1, HL1.out], by rw [e6]; exact HA4.out.max⟩
              have HA5 : Hid (Ahead 8 1073741824 (n1 + 4) (doS s3 (cW n2 pg b))) := HA4.out.step (cW n2 pg b) (by show (2 : Int) < 7; decide)
              have HBW : Hid (Wr (wrote (atV (s3.page pg) st).body 0 b)) := by
                have q := atV_ok (ms3.at_.ok.page hpg0 hp3) hst0.1
                exact wrote_wr q.wr (off := 0) (by omega)
              obtain ⟨bb, HBB⟩ : ∃ bb, Hid (wrote (atV (s3.page pg) st).body 0 b = bb) := ⟨_, rfl⟩
              obtain ⟨s4, HS4⟩ : ∃ s4, Hid (doS s3 (cW n2 pg b) = s4) := ⟨_, rfl⟩
              rw [HBB.out] at HH4 HBW
              rw [HS4.out] at hcx HH4 HH42 HQ4 HA5
              clear e1 e2 e3 e4 e5 e6
              have hd := hcx
              go_upto_region 17 with (go_at_call 12; refine Calls.mono hd ?_; clear hd; rintro e Y16 ⟨he, hst⟩; obtain rfl := he)
              obtain ⟨F16, ms4, of16, ff16⟩ := hst
              have l_k12 := l_k12.step of16 ff16
              have l_k13 := l_k13.step of16 ff16
              clear of16 ff16
              clear hcx ms3 f2
              have f2 : Y16.cell? ⟨k13, 1, none⟩ = some (.int .u64 n2) := row_at l_k13.1 1 _ HRY.out.2.2.2.1
              have hp4 : pg < s4.pages.length := by rw [HA5.out.len]; exact hpg8
              have hcx : Calls Try.prog 12 #[.pointer (some ⟨g, 0, none⟩), .agg #[.int .u8 1, .int .u64 n2, .int .u16 pg, .int .i64 0, .string ⟨#[]⟩]] Y16 fun r w' => r = .returned (.agg (doR s4 (cR n2 pg)).arr) ∧ Step w F16 g (doS s4 (cR n2 pg)) Y16 w' := ms4.call (cR n2 pg) (cR_ok (by omega) (by omega)) (by have := HA5.out.begun; have := hn40_oa; omega)
              rw [(has_read HH4.out hp4).1, (has_read HH4.out hp4).2, seen_own] at hcx
              obtain ⟨RM, HDRM⟩ : ∃ R, Hid ((Rep.mk 0 0 st bb).arr = R) := ⟨_, rfl⟩
              have HRM : Hid (RM.size = 67 ∧ RM.all (·.oneCell') = true ∧ RM[0]? = some (.int .i64 (Rep.mk 0 0 st bb).err) ∧ RM[1]? = some (.int .u64 (Rep.mk 0 0 st bb).txn) ∧ RM[2]? = some (.int .u32 (Rep.mk 0 0 st bb).ts)) := by rw [← HDRM.out]; exact ⟨Rep.arr_size HBW.out.1, Rep.one _, rfl, rfl, rfl⟩
              rw [HDRM.out] at hcx
              have hd := hcx
              have ts : Hid (1 = 1) := rfl
              go_upto_region 18 with (first
                | (go_at_call 12; refine Calls.mono hd ?_; clear hd; rintro e X14 ⟨he, hst⟩; obtain rfl := he; have rn : Row (X14.alloc (.cells Z 40)) X14.heap.size Z 40 := Row.new _ _ _)
                | (have hh := ts; clear hh ts; refine store_cells rfl 40 (.tmp 14) (.tmp 81) rfl X14.heap.size RM rfl rfl 40 _ rn 67 size40 HZS.out HRM.out.1 HRM.out.2.1 ?_))
              obtain ⟨F14, ms5, of14, ff14⟩ := hst
              have bn14 : Below X14.heap.size X14 ((X14.alloc (.cells Z 40)).setRow X14.heap.size RM) := below_setRow ((Below.refl _ _).alloc (Nat.le_refl _) _) (Nat.le_refl _) _
              have l_k14 : Loc F14 ((X14.alloc (.cells Z 40)).setRow X14.heap.size RM) X14.heap.size RM 40 := ⟨rn.set _, ms5.fresh⟩
              have l_k12 := (l_k12.step of14 ff14).below bn14
              have l_k13 := (l_k13.step of14 ff14).below bn14
              have ms5 := ms5.below bn14
              clear of14 ff14 rn bn14
              generalize (X14.alloc (.cells Z 40)).setRow X14.heap.size RM = Y14 at l_k14 l_k12 l_k13 ms5 ⊢
              generalize X14.heap.size = k14 at l_k14 ⊢
              clear hcx ms4 f2
              have f2 : Y14.cell? ⟨k13, 1, none⟩ = some (.int .u64 n2) := row_at l_k13.1 1 _ HRY.out.2.2.2.1
              have HOK4 : Hid s4.Ok := ms5.at_.ok
              have hcx : Calls Try.prog 12 #[.pointer (some ⟨g, 0, none⟩), .agg #[.int .u8 3, .int .u64 n2, .int .u16 0, .int .i64 0, .string ⟨#[]⟩]] Y14 fun r w' => r = .returned (.agg (doR s4 (cE 3 n2)).arr) ∧ Step w F14 g (doS s4 (cE 3 n2)) Y14 w' := ms5.call (cE 3 n2) (cE_ok (Or.inl rfl) (by omega)) (by have := HA5.out.begun; have := hn40_oa; omega)
              obtain ⟨e1, e2, e3, e4, e5, e6, e7⟩ := has_commit HOK4.out HH4.out hpg0 hp4 HQ4.out.1.symm (by rw [HQ4.out.1, HQ4.out.2]; omega)
              rw [e1, HQ4.out.1] at hcx
              rw [HQ4.out.1] at e2 e3
              have HP5 : Hid ((doS s4 (cE 3 n2)).page pg = s4.page pg ++ [⟨st + 1, bb⟩]) := e2
              have HL5 : Hid ((doS s4 (cE 3 n2)).last = st + 1 ∧ (doS s4 (cE 3 n2)).max = 1073741824 ∧ (doS s4 (cE 3 n2)).pages.length = 8) := ⟨e3, e4.trans HQ4.out.2, e7.trans HA5.out.len⟩
              have HH5 : Hid (Has (doS s4 (cE 3 n2)) n0 st [(pg, ba)]) := ⟨e6, by rw [e5, findL_end, if_neg hn2.2.2]; exact HH42.out.fd⟩
              have HA6 : Hid (Ahead 8 1073741824 (n1 + 5) (doS s4 (cE 3 n2))) := HA5.out.step (cE 3 n2) (by show (3 : Int) < 7; decide)
              obtain ⟨s5, HS5⟩ : ∃ s5, Hid (doS s4 (cE 3 n2) = s5) := ⟨_, rfl⟩
              rw [HS5.out] at hcx HP5 HL5 HH5 HA6
              clear e1 e2 e3 e4 e5 e6 e7
              obtain ⟨RE, HDRE⟩ : ∃ R, Hid ((Rep.mk 0 0 (st + 1) (zs 64)).arr = R) := ⟨_, rfl⟩
              have HRE : Hid (RE.size = 67 ∧ RE.all (·.oneCell') = true ∧ RE[0]? = some (.int .i64 (Rep.mk 0 0 (st + 1) (zs 64)).err) ∧ RE[1]? = some (.int .u64 (Rep.mk 0 0 (st + 1) (zs 64)).txn) ∧ RE[2]? = some (.int .u32 (Rep.mk 0 0 (st + 1) (zs 64)).ts)) := by rw [← HDRE.out]; exact ⟨Rep.arr_size (zs_length _), Rep.one _, rfl, rfl, rfl⟩
              rw [HDRE.out] at hcx
              have hd := hcx
              have ts : Hid (1 = 1) := rfl
              go_upto_region 19 with (first
                | (go_at_call 12; refine Calls.mono hd ?_; clear hd; rintro e X25 ⟨he, hst⟩; obtain rfl := he; have rn : Row (X25.alloc (.cells Z 40)) X25.heap.size Z 40 := Row.new _ _ _)
                | (have hh := ts; clear hh ts; refine store_cells rfl 40 (.tmp 15) (.tmp 86) rfl X25.heap.size RE rfl rfl 40 _ rn 67 size40 HZS.out HRE.out.1 HRE.out.2.1 ?_))
              obtain ⟨F25, ms6, of25, ff25⟩ := hst
              have bn25 : Below X25.heap.size X25 ((X25.alloc (.cells Z 40)).setRow X25.heap.size RE) := below_setRow ((Below.refl _ _).alloc (Nat.le_refl _) _) (Nat.le_refl _) _
              have l_k25 : Loc F25 ((X25.alloc (.cells Z 40)).setRow X25.heap.size RE) X25.heap.size RE 40 := ⟨rn.set _, ms6.fresh⟩
              have l_k12 := (l_k12.step of25 ff25).below bn25
              have l_k13 := (l_k13.step of25 ff25).below bn25
              have l_k14 := (l_k14.step of25 ff25).below bn25
              have ms6 := ms6.below bn25
              clear of25 ff25 rn bn25
              generalize (X25.alloc (.cells Z 40)).setRow X25.heap.size RE = Y25 at l_k25 l_k12 l_k13 l_k14 ms6 ⊢
              generalize X25.heap.size = k25 at l_k25 ⊢
              clear hcx ms5 f2
              have f2 : Y25.cell? ⟨k12, 1, none⟩ = some (.int .u64 n0) := row_at l_k12.1 1 _ HRX.out.2.2.2.1
              have HAV : Hid (atV (s5.page pg) (st + 1) = ⟨st + 1, bb⟩) := by
                show _ = _
                rw [HP5.out, atV_snoc, if_pos (Int.le_refl _)]
              have hcx : Calls Try.prog 12 #[.pointer (some ⟨g, 0, none⟩), .agg #[.int .u8 3, .int .u64 n0, .int .u16 0, .int .i64 0, .string ⟨#[]⟩]] Y25 fun r w' => r = .returned (.agg (doR s5 (cE 3 n0)).arr) ∧ Step w F25 g (doS s5 (cE 3 n0)) Y25 w' := ms6.call (cE 3 n0) (cE_ok (Or.inl rfl) (by omega)) (by have := HA6.out.begun; have := hn40_oa; omega)
              obtain ⟨e1, e2⟩ := has_refused HH5.out (by rw [HL5.out.1, HL5.out.2.1]; omega) (by rw [HL5.out.1, HAV.out]; show st < st + 1; omega)
              rw [e1] at hcx
              have HP6 : Hid ((doS s5 (cE 3 n0)).page pg = s5.page pg ∧ (doS s5 (cE 3 n0)).last = st + 1 ∧ (doS s5 (cE 3 n0)).pages.length = 8) := by rw [e2]; exact ⟨rfl, HL5.out.1, HL5.out.2.2⟩
              obtain ⟨s6, HS6⟩ : ∃ s6, Hid (doS s5 (cE 3 n0) = s6) := ⟨_, rfl⟩
              rw [HS6.out] at hcx HP6
              clear e1 e2
              obtain ⟨RF, HDRF⟩ : ∃ R, Hid ((Rep.fail 7).arr = R) := ⟨_, rfl⟩
              have HRF : Hid (RF.size = 67 ∧ RF.all (·.oneCell') = true ∧ RF[0]? = some (.int .i64 (Rep.fail 7).err) ∧ RF[1]? = some (.int .u64 (Rep.fail 7).txn) ∧ RF[2]? = some (.int .u32 (Rep.fail 7).ts)) := by rw [← HDRF.out]; exact ⟨Rep.arr_size (zs_length _), Rep.one _, rfl, rfl, rfl⟩
              rw [HDRF.out] at hcx
              have hd := hcx
              have ts : Hid (1 = 1) := rfl
              go_upto_region 20 with (first
                | (go_at_call 12; refine Calls.mono hd ?_; clear hd; rintro e X26 ⟨he, hst⟩; obtain rfl := he; have rn : Row (X26.alloc (.cells Z 40)) X26.heap.size Z 40 := Row.new _ _ _)
                | (have hh := ts; clear hh ts; refine store_cells rfl 40 (.tmp 16) (.tmp 91) rfl X26.heap.size RF rfl rfl 40 _ rn 67 size40 HZS.out HRF.out.1 HRF.out.2.1 ?_))
              obtain ⟨F26, ms7, of26, ff26⟩ := hst
              have bn26 : Below X26.heap.size X26 ((X26.alloc (.cells Z 40)).setRow X26.heap.size RF) := below_setRow ((Below.refl _ _).alloc (Nat.le_refl _) _) (Nat.le_refl _) _
              have l_k26 : Loc F26 ((X26.alloc (.cells Z 40)).setRow X26.heap.size RF) X26.heap.size RF 40 := ⟨rn.set _, ms7.fresh⟩
              have l_k12 := (l_k12.step of26 ff26).below bn26
              have l_k13 := (l_k13.step of26 ff26).below bn26
              have l_k14 := (l_k14.step of26 ff26).below bn26
              have l_k25 := (l_k25.step of26 ff26).below bn26
              have ms7 := ms7.below bn26
              clear of26 ff26 rn bn26
              generalize (X26.alloc (.cells Z 40)).setRow X26.heap.size RF = Y26 at l_k26 l_k12 l_k13 l_k14 l_k25 ms7 ⊢
              generalize X26.heap.size = k26 at l_k26 ⊢
              clear hcx ms6 f2
              have hc14 := ms7.last
              rw [HP6.out.2.1] at hc14
              have hc16 := ms7.at_page pg (st + 1) hpg0 (by omega) (by omega)
              rw [HP6.out.2.2, if_pos (by exact hpg8), HP6.out.1, HAV.out] at hc16
              have HVO : Hid (Ver.Ok ⟨st + 1, bb⟩) := ⟨by show (0 : Int) ≤ st + 1; omega, by show st + 1 ≤ 4294967295; omega, HBW.out⟩
              obtain ⟨VV, HDVV⟩ : ∃ R, Hid ((Ver.mk (st + 1) bb).arr = R) := ⟨_, rfl⟩
              have HVV : Hid (VV.size = 65 ∧ VV.all (·.oneCell') = true ∧ VV[0]? = some (.int .u32 (Ver.mk (st + 1) bb).ts)) := by rw [← HDVV.out]; exact ⟨Ver.arr_size HVO.out, Ver.one _, rfl⟩
              rw [HDVV.out] at hc16
              have hla := hc14
              have hat := hc16
              have rn : Hid (1 = 1) := rfl
              have ts : Hid (1 = 1) := rfl
              go_upto_region 21 with (first
                | (go_at_call 14; refine Calls.mono hla ?_; clear hla; rintro e W9 ⟨he, hww⟩; rw [hww]; clear hww W9; obtain rfl := he)
                | (go_at_call 16; refine Calls.mono hat ?_; clear hat; rintro e X17 ⟨he, ms8, hb17⟩; obtain rfl := he; have rn : Row (X17.alloc (.cells Z4 44)) X17.heap.size Z4 44 := Row.new _ _ _)
                | (have hh := ts; clear hh ts; refine store_cells rfl 44 (.tmp 17) (.tmp 96) rfl X17.heap.size VV rfl rfl 44 _ rn 65 size44 HZ4.out HVV.out.1 HVV.out.2.1 ?_))
              have bn17 : Below X17.heap.size X17 ((X17.alloc (.cells Z4 44)).setRow X17.heap.size VV) := below_setRow ((Below.refl _ _).alloc (Nat.le_refl _) _) (Nat.le_refl _) _
              have l_k17 : Loc F26 ((X17.alloc (.cells Z4 44)).setRow X17.heap.size VV) X17.heap.size VV 44 := ⟨rn.set _, ms8.fresh⟩
              have l_k12 := (l_k12.below hb17).below bn17
              have l_k13 := (l_k13.below hb17).below bn17
              have l_k14 := (l_k14.below hb17).below bn17
              have l_k25 := (l_k25.below hb17).below bn17
              have l_k26 := (l_k26.below hb17).below bn17
              have ms8 := ms8.below bn17
              clear rn bn17 hb17
              generalize (X17.alloc (.cells Z4 44)).setRow X17.heap.size VV = Y17 at l_k17 l_k12 l_k13 l_k14 l_k25 l_k26 ms8 ⊢
              generalize X17.heap.size = k17 at l_k17 ⊢
              have g1 : Y17.cell? ⟨k25, 0, none⟩ = some (.int .i64 0) := row_at l_k25.1 0 _ HRE.out.2.2.1
              have g2 : Y17.cell? ⟨k25, 2, none⟩ = some (.int .u32 (st + 1)) := row_at l_k25.1 2 _ HRE.out.2.2.2.2
              have g3 : Y17.cell? ⟨k13, 2, none⟩ = some (.int .u32 st) := row_at l_k13.1 2 _ HRY.out.2.2.2.2
              have g4 : Y17.cell? ⟨k17, 0, none⟩ = some (.int .u32 (st + 1)) := row_at l_k17.1 0 _ HVV.out.2.2
              have hw1 : IntKind.u32.wrap (st + 1) = st + 1 := by rw [IntKind.wrap_u32]; omega
              have r16 := l_k26.1
              have bf := built40_err 7
              have hef : ∀ w, (Op.equalIn 10000 40 (.agg (Rep.fail 7).arr) (.agg (Rep.fail 7).arr)).run Try.prog w = .ok true w := fun w => by rw [equal40 _ _ (zs_length _) (zs_length _)]; simp
              rw [HDRF.out] at bf hef
              have heb : ∀ w, (Op.equalIn 10000 38 (.agg (bs bb)) (.agg (bs bb))).run Try.prog w = .ok true w := fun w => by rw [equal38a _ _ HBW.out.1 HBW.out.1]; simp
              have hv1 := vbody_cells HDVV.out l_k17.1
              have hv2 := rbody_cells HDRM.out l_k14.1
              simp only at hv1 hv2
              have HBL : Hid ((bb.map (Value.int .u8)).length = 64) := by show _ = _; rw [List.length_map]; exact HBW.out.1
              have HBS : Hid ((bb.map (Value.int .u8)).toArray = bs bb) := rfl
              obtain ⟨BL, HBLD⟩ : ∃ BL, Hid (bb.map (Value.int .u8) = BL) := ⟨_, rfl⟩
              obtain ⟨BS, HBSD⟩ : ∃ BS, Hid (bs bb = BS) := ⟨_, rfl⟩
              rw [HBLD.out] at hv1 hv2 HBL HBS
              rw [HBSD.out] at HBS heb
              have haw := HAW.out Y17
              have t1 : Hid (1 = 1) := rfl
              have t2 : Hid (1 = 1) := rfl
              have t3 : Hid (1 = 1) := rfl
              have t4 : Hid (1 = 1) := rfl
              go_wp2_with (first
                | (have hh := t1; clear hh t1; refine load_cells_g (by rfl) 40 (.tmp 16) rfl k26 rfl 40 RF r16 67 Try.underlying40 rfl size40 HRF.out.1 ?_)
                | (have hh := t2; clear hh t2; refine build_cells_g (by rfl) 40 #[(0, .const (.int .i64 7))] rfl _ rfl RF bf ?_)
                | (have hh := t3; clear hh t3; refine load_any_g (by rfl) 38 (.tmp 121) rfl ⟨k17, 1, none⟩ rfl BL _ hv1 Try.underlying38 rfl (by rw [size38, HBL.out]) ?_; rw [HBS.out])
                | (have hh := t4; clear hh t4; refine load_any_g (by rfl) 38 (.tmp 123) rfl ⟨k14, 3, none⟩ rfl BL _ hv2 Try.underlying38 rfl (by rw [size38, HBL.out]) ?_; rw [HBS.out])
                | (go_at_call 10; refine Calls.mono haw ?_; clear haw; rintro e W9 ⟨he, hb9⟩; obtain rfl := he))
              rw [HPP.out]
              exact ⟨rfl, ms8.bel.trans (hb9.mono ms8.bel.size)⟩
        · rw [(begun_none HA2.out.cl hl9).1, (begun_none HA2.out.cl hl9).2] at hcx
          obtain ⟨RY, HDRY⟩ : ∃ R, Hid ((Rep.fail 10).arr = R) := ⟨_, rfl⟩
          have HRY : Hid (RY.size = 67 ∧ RY.all (·.oneCell') = true ∧ RY[0]? = some (.int .i64 (Rep.fail 10).err) ∧ RY[1]? = some (.int .u64 (Rep.fail 10).txn) ∧ RY[2]? = some (.int .u32 (Rep.fail 10).ts)) := by rw [← HDRY.out]; exact ⟨Rep.arr_size (zs_length _), Rep.one _, rfl, rfl, rfl⟩
          rw [HDRY.out] at hcx
          have hd := hcx
          have ts : Hid (1 = 1) := rfl
          go_upto_region 13 with (first
            | (go_at_call 12; refine Calls.mono hd ?_; clear hd; rintro e X13 ⟨he, hst⟩; obtain rfl := he; have rn : Row (X13.alloc (.cells Z 40)) X13.heap.size Z 40 := Row.new _ _ _)
            | (have hh := ts; clear hh ts; refine store_cells rfl 40 (.tmp 13) (.tmp 42) rfl X13.heap.size RY rfl rfl 40 _ rn 67 size40 HZS.out HRY.out.1 HRY.out.2.1 ?_))
          obtain ⟨F13, ms2, of13, ff13⟩ := hst
          have bn13 : Below X13.heap.size X13 ((X13.alloc (.cells Z 40)).setRow X13.heap.size RY) := below_setRow ((Below.refl _ _).alloc (Nat.le_refl _) _) (Nat.le_refl _) _
          have l_k13 : Loc F13 ((X13.alloc (.cells Z 40)).setRow X13.heap.size RY) X13.heap.size RY 40 := ⟨rn.set _, ms2.fresh⟩
          have l_k12 := (l_k12.step of13 ff13).below bn13
          have ms2 := ms2.below bn13
          clear of13 ff13 rn bn13
          generalize (X13.alloc (.cells Z 40)).setRow X13.heap.size RY = Y13 at l_k13 l_k12 ms2 ⊢
          generalize X13.heap.size = k13 at l_k13 ⊢
          clear hcx ms1
          have f0 : Y13.cell? ⟨k12, 0, none⟩ = some (.int .i64 0) := row_at l_k12.1 0 _ HRX.out.2.2.1
          have f1 : Y13.cell? ⟨k13, 0, none⟩ = some (.int .i64 10) := row_at l_k13.1 0 _ HRY.out.2.2.1
          have haw := HAW.out Y13
          go_wp2_with (go_at_call 10; refine Calls.mono haw ?_; clear haw; rintro e W9 ⟨he, hb9⟩; obtain rfl := he)
          rw [HPP.out]
          exact ⟨rfl, ms2.bel.trans (hb9.mono ms2.bel.size)⟩
      · rw [(begun_none HA.out.cl hl8).1, (begun_none HA.out.cl hl8).2] at hcx
        obtain ⟨RX, HDRX⟩ : ∃ R, Hid ((Rep.fail 10).arr = R) := ⟨_, rfl⟩
        have HRX : Hid (RX.size = 67 ∧ RX.all (·.oneCell') = true ∧ RX[0]? = some (.int .i64 (Rep.fail 10).err) ∧ RX[1]? = some (.int .u64 (Rep.fail 10).txn) ∧ RX[2]? = some (.int .u32 (Rep.fail 10).ts)) := by rw [← HDRX.out]; exact ⟨Rep.arr_size (zs_length _), Rep.one _, rfl, rfl, rfl⟩
        rw [HDRX.out] at hcx
        have hd := hcx
        have ts : Hid (1 = 1) := rfl
        go_upto_region 12 with (first
          | (go_at_call 12; refine Calls.mono hd ?_; clear hd; rintro e X12 ⟨he, hst⟩; obtain rfl := he; have rn : Row (X12.alloc (.cells Z 40)) X12.heap.size Z 40 := Row.new _ _ _)
          | (have hh := ts; clear hh ts; refine store_cells rfl 40 (.tmp 12) (.tmp 39) rfl X12.heap.size RX rfl rfl 40 _ rn 67 size40 HZS.out HRX.out.1 HRX.out.2.1 ?_))
        obtain ⟨F12, ms1, of12, ff12⟩ := hst
        have bn12 : Below X12.heap.size X12 ((X12.alloc (.cells Z 40)).setRow X12.heap.size RX) := below_setRow ((Below.refl _ _).alloc (Nat.le_refl _) _) (Nat.le_refl _) _
        have l_k12 : Loc F12 ((X12.alloc (.cells Z 40)).setRow X12.heap.size RX) X12.heap.size RX 40 := ⟨rn.set _, ms1.fresh⟩
        have ms1 := ms1.below bn12
        clear of12 ff12 rn bn12
        generalize (X12.alloc (.cells Z 40)).setRow X12.heap.size RX = Y12 at l_k12  ms1 ⊢
        generalize X12.heap.size = k12 at l_k12 ⊢
        clear hcx ms
        have hcx : Calls Try.prog 12 #[.pointer (some ⟨g, 0, none⟩), .agg #[.int .u8 0, .int .u64 0, .int .u16 0, .int .i64 0, .string ⟨#[]⟩]] Y12 fun r w' => r = .returned (.agg (doR s cB).arr) ∧ Step w F12 g (doS s cB) Y12 w' := ms1.call cB aw_ok.1 (by have := HA.out.begun; have := hn40_oa; omega)
        rw [(begun_none HA.out.cl hl8).1, (begun_none HA.out.cl hl8).2, HDRX.out] at hcx
        have hd := hcx
        have ts : Hid (1 = 1) := rfl
        go_upto_region 13 with (first
          | (go_at_call 12; refine Calls.mono hd ?_; clear hd; rintro e X13 ⟨he, hst⟩; obtain rfl := he; have rn : Row (X13.alloc (.cells Z 40)) X13.heap.size Z 40 := Row.new _ _ _)
          | (have hh := ts; clear hh ts; refine store_cells rfl 40 (.tmp 13) (.tmp 42) rfl X13.heap.size RX rfl rfl 40 _ rn 67 size40 HZS.out HRX.out.1 HRX.out.2.1 ?_))
        obtain ⟨F13, ms2, of13, ff13⟩ := hst
        have bn13 : Below X13.heap.size X13 ((X13.alloc (.cells Z 40)).setRow X13.heap.size RX) := below_setRow ((Below.refl _ _).alloc (Nat.le_refl _) _) (Nat.le_refl _) _
        have l_k13 : Loc F13 ((X13.alloc (.cells Z 40)).setRow X13.heap.size RX) X13.heap.size RX 40 := ⟨rn.set _, ms2.fresh⟩
        have l_k12 := (l_k12.step of13 ff13).below bn13
        have ms2 := ms2.below bn13
        clear of13 ff13 rn bn13
        generalize (X13.alloc (.cells Z 40)).setRow X13.heap.size RX = Y13 at l_k13 l_k12 ms2 ⊢
        generalize X13.heap.size = k13 at l_k13 ⊢
        clear hcx ms1
        have f0 : Y13.cell? ⟨k12, 0, none⟩ = some (.int .i64 10) := row_at l_k12.1 0 _ HRX.out.2.2.1
        have haw := HAW.out Y13
        go_wp2_with (go_at_call 10; refine Calls.mono haw ?_; clear haw; rintro e W9 ⟨he, hb9⟩; obtain rfl := he)
        rw [HPP.out]
        exact ⟨rfl, ms2.bel.trans (hb9.mono ms2.bel.size)⟩

set_option maxRecDepth 100000 in
theorem lifted (os : Os) (started : os.Started) (H : Type) (enc : TypeId × Value → H) :
    ReturnsInHanded {} Try.checked os 5 .any (Rows.modelFirstSpec.pre6 enc Try.prog Try.f5 Rows.modelFirstRow.domain false) (Rows.modelFirstSpec.post enc Try.prog Try.f5 false true false false) := by
  refine returnsInHanded_of_change_sized (C := Try.checked) own started (by kernel_rfl) Try.func5
    (ChangeSpec.witness6 (enc := enc) (C := Try.checked) false ⟨#[], #[.slice none 0 0, .int .u16 0, .string ByteArray.empty, .string ByteArray.empty], []⟩ 8 (by kernel_rfl) (by kernel_rfl) (by kernel_rfl) (by kernel_rfl)) ?_
  intro W base args ds gs before hval0 hW hcnd hsz0 _
  have hval : ∀ (j : Nat) t v, Try.f5.params[j]? = some t → args[j]? = some v → Value.okWide Try.prog W .any base t v := hval0
  have hW' := hW
  obtain ⟨p, q, hA0, hV, rfl, hfz, hnd⟩ := hW
  have hA : DataW.TrodAll enc Try.prog W 0 (fun _ => true) true Try.f5.params.toList args.toList ds p := hA0
  have hsz : (DataW.weightsEach Try.prog (Try.f5.params.toList ++ []) (ds ++ gs)).all (· ≤ reachBytes) = true := hsz0
  rw [Try.params5] at hA hval hsz
  obtain ⟨v0, vs0, d0, ds0, p0, q0, hargs, rfl, rfl, h0, r0⟩ := trodAll_cons hA
  obtain ⟨v1, vs1, d1, ds1, p1, q1, rfl, rfl, rfl, h1, r1⟩ := trodAll_cons r0
  obtain ⟨v2, vs2, d2, ds2, p2, q2, rfl, rfl, rfl, h2, r2⟩ := trodAll_cons r1
  obtain ⟨v3, vs3, d3, ds3, p3, q3, rfl, rfl, rfl, h3, r3⟩ := trodAll_cons r2
  obtain ⟨rfl, rfl, rfl⟩ := trodAll_nil r3
  obtain rfl : args = #[v0, v1, v2, v3] := by cases args; simp_all
  obtain ⟨rfl, rfl⟩ := trodVars_none hV
  simp only [List.append_nil] at hsz
  have hlt : ∀ x ∈ (p0 ++ (p1 ++ (p2 ++ (p3 ++ [])))), x.block < W.heap.size := fun x hx => hW'.lt x (by simpa using hx)
  have hw0 : (d0.weights Try.prog 23).all (· ≤ reachBytes) = true := List.all_eq_true.2 fun m hm => List.all_eq_true.1 hsz m (by simp [DataW.weightsEach, hm])
  have hw1 : (d1.weights Try.prog 33).all (· ≤ reachBytes) = true := List.all_eq_true.2 fun m hm => List.all_eq_true.1 hsz m (by simp [DataW.weightsEach, hm])
  have hw2 : (d2.weights Try.prog 9).all (· ≤ reachBytes) = true := List.all_eq_true.2 fun m hm => List.all_eq_true.1 hsz m (by simp [DataW.weightsEach, hm])
  have hw3 : (d3.weights Try.prog 9).all (· ≤ reachBytes) = true := List.all_eq_true.2 fun m hm => List.all_eq_true.1 hsz m (by simp [DataW.weightsEach, hm])
  have k0 := h0
  have k1 := h1
  have k2 := h2
  have k3 := h3
  obtain ⟨a0, w0⟩ := open_mcals (hval 0 23 v0 rfl rfl) h0 hw0
  obtain ⟨a1, rfl, rfl, rfl, w1⟩ := open_int Try.underlying33 (hval 1 33 v1 rfl rfl) h1
  obtain ⟨a2, rfl, rfl, rfl, w2⟩ := Go.ChangeMaps.open_string Try.underlying9 (hval 2 9 v2 rfl rfl) h2
  obtain ⟨a3, rfl, rfl, rfl, w3⟩ := Go.ChangeMaps.open_string Try.underlying9 (hval 3 9 v3 rfl rfl) h3
  clear hA0 hval0
  simp only [List.append_nil] at hW'
  refine (walk W v0 a0 a1 a2 a3 w0 w1 w2 w3).mono fun e W' ⟨he, hg⟩ => ?_
  subst he
  exact ⟨_, rfl, ⟨_, _, _, [], (p0 ++ ([] ++ ([] ++ ([] ++ [])))), [], hW', (trodAll_cons_mk (shut_bool Try.underlying4 _) trodAll_mk0), (trodAll_cons_mk (Below.trod laidOut (by kernel_rfl) (of_decide_eq_true (by kernel_rfl)) k0 hg (fun x hx => hlt x (by simp [hx]))) (trodAll_cons_mk (Below.trod laidOut (by kernel_rfl) (of_decide_eq_true (by kernel_rfl)) k1 hg (fun x hx => (nomatch hx))) (trodAll_cons_mk (Below.trod laidOut (by kernel_rfl) (of_decide_eq_true (by kernel_rfl)) k2 hg (fun x hx => (nomatch hx))) (trodAll_cons_mk (Below.trod laidOut (by kernel_rfl) (of_decide_eq_true (by kernel_rfl)) k3 hg (fun x hx => (nomatch hx))) trodAll_mk0)))), rfl,
    hg.frame _, fun h => by cases h⟩⟩

theorem over : Rows.modelFirstRow.holds Try.pinned (OpenSpec.ofChange Rows.modelFirstSpec) :=
  OpenClaim.holds_of_wide 5 Try.f5 rfl rfl rfl rfl rfl rfl rfl ⟨rfl, rfl, rfl, rfl, rfl⟩ rfl rfl rfl rfl rfl (by kernel_rfl) Try.func5 (by kernel_rfl)
    (of_decide_eq_true (by kernel_rfl)) (by unfold Func.isWrapper; first | (rw [if_pos (by decide +kernel)]; kernel_rfl) | (rw [if_neg (by decide +kernel)]; exact ⟨rfl, rfl⟩))
    (fun os started H enc _ => lifted os started H enc)

/-- The statement. -/
theorem proved : Rows.ModelFirstSaid :=
  over
#print axioms proved
end Go.Proofs.Ytpncmbkklkfmnaa.modelFirst
