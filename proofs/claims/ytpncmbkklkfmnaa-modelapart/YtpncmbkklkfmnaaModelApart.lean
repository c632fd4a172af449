/-
  Proved here: what a transaction writes nobody else reads till it is committed; when it is aborted, never; without a condition.
-/
import Derived.Test.YtpncmbkklkfmnaaMlw
namespace Go.Proofs.Ytpncmbkklkfmnaa.modelApart
open Go.ChangeShapes Go.WideShapes Go.ChangeAt Go.RowKit
open Go.Deep
set_option linter.unusedVariables false
set_option linter.unusedSimpArgs false

theorem own : ownKnob Try.prog.godebug = none := by kernel_rfl

set_option maxRecDepth 20000

theorem slice38h (X p n : Nat) (h : n ≤ 64) (w : World) : (Instr.sliceAt 38 (.pointer (some ⟨X, p, none⟩)) none (some (.int .i64 (n : Int))) none).run Try.prog w = .ok (.slice (some ⟨X, p, none⟩) n 64) w := by
  rw [run_sliceAt_array_h (P := Try.prog) w 38 ⟨X, p, none⟩ (by rw [len38, elem38]; exact Try.underlying38) .i64 (n : Int) (by omega) (by rw [len38]; omega)]
  rw [elem38, len38, Try.sizeOf5]
  simp [Result.andThen_ok, slicedAt]
  rw [Addr.add_mid]
  rfl
theorem tx_nums (t : ByteArray) : strOfNums (nums t) = t := by
  have e : (strOfNums (nums t)).data.toList = t.data.toList := by
    rw [strOfNums_data]
    unfold nums
    rw [List.map_map]
    conv => rhs; rw [← List.map_id t.data.toList]
    apply List.map_congr_left
    intro x _
    simp [Function.comp]
  have e2 : (strOfNums (nums t)).data = t.data := by rw [← Array.toArray_toList (xs := (strOfNums (nums t)).data), e]
  cases t; cases h : strOfNums (nums ⟨_⟩) with | mk d => rw [h] at e2; exact congrArg _ e2
theorem conv49 {W : World} {k : Nat} {b : List Int} {str : ByteArray} (hc : ∀ j u, (b.map (Value.int .u8))[j]? = some u → W.cell? ((⟨k, 3, none⟩ : Addr).add j) = some u) (hp : b.take str.size = nums str) (hb : b.length = 64) (hs : str.size ≤ 64) :
    (Go.convert 49 9 (.slice (some ⟨k, 3, none⟩) str.size 64)).run Try.prog W = .ok (.string str) W := by
  have := run_convert_bytes_arg (P := Try.prog) W 49 5 Try.underlying49 Try.underlying5 k 3 str.size 64 (nums str) (nums_length str) (fun i hi => by
    have h1 := hc i (.int .u8 (b.getD i 0)) (by rw [List.getElem?_map, List.getElem?_eq_getElem (by omega)]; simp [List.getD, show i < b.length by omega])
    rw [Addr.add_mid] at h1
    rw [h1, ← hp]
    simp [List.getD, hi]) 9 Try.underlying9
  rw [this, tx_nums]
theorem wrote_take (b : List Int) (hb : b.length = 64) (t : ByteArray) (ht : t.size ≤ 64) : (wrote b 0 t).take t.size = nums t := by
  unfold wrote splice
  show (b.take 0 ++ nums t ++ b.drop (0 + (nums t).length)).take t.size = nums t
  rw [List.take_zero, List.nil_append, List.take_append_of_le_length (by rw [nums_length]; exact Nat.le_refl _), List.take_of_length_le (by rw [nums_length]; exact Nat.le_refl _)]
set_option maxHeartbeats 16000000 in
theorem walk (w : World) (v : Value) (cs : List Cal) (page : Int) (str : ByteArray) (cm : Bool) (hcs : Cals w v cs) (hpg : (Lit.int .u16 page).wf = true) (hs0 : str.size ≤ maxLen) :
    Calls Try.prog 6 #[v, .int .u16 page, .string str, .bool cm] w fun e w' => e = .returned (.bool true) ∧ Below w.heap.size w w' := by
  have hp := bound_u16 hpg
  have hs1 : str.size ≤ 9223372036854775807 := by unfold maxLen at hs0; omega
  clear hpg hs0
  obtain ⟨oa, cap, rfl, hcap_oa, hlen_oa, hel_oa⟩ := hcs
  have HEL_oa : Hid (∀ i, i < cs.length → ∃ (a : Addr) (c : Cal), oa = some a ∧ cs[i]? = some c ∧ c.Ok ∧ ∀ j u, c.cells[j]? = some u → w.cell? ((a.add (i * 5)).add j) = some u) := hel_oa
  obtain ⟨n1, HN_oa⟩ : ∃ n1, Hid (Nat.min cs.length 40 = n1) := ⟨_, rfl⟩
  have HSM_oa : Hid (∀ W, Calls Try.prog 11 #[.slice oa cs.length cap] W fun r w' => r = .returned (.slice oa n1 cap) ∧ w' = W) := fun W => by
    have := small_any _ oa cs.length cap rfl hcap_oa (by omega) W
    rw [HN_oa.out] at this
    simpa using this
  have hn40_oa : n1 ≤ 40 := by rw [← HN_oa.out]; exact Nat.min_le_right _ _
  have HNL_oa : Hid (n1 ≤ cs.length) := by rw [← HN_oa.out]; exact Nat.min_le_left _ _
  clear hel_oa hlen_oa hcap_oa
  have HAW : Hid (∀ W, Calls Try.prog 10 #[] W fun r w' => r = .returned (.bool true) ∧ Below W.heap.size W w') := fun W => awake_any W
  have HNW : Hid (∀ W, Calls Try.prog 9 #[.int .i64 8, .int .u32 1073741824] W fun e w' => NewM W 8 1073741824 e w') := fun W => new_some 8 (by decide) (by decide) 1073741824 (by decide) (by decide) W
  obtain ⟨PP, HPP⟩ : ∃ PP : Ending → World → Prop, Hid (PP = fun e w' => e = .returned (.bool true) ∧ Below w.heap.size w w') := ⟨_, rfl⟩
  rw [← HPP.out]
  have hz40 := zero40
  have HZS : Hid (Rep.zero.arr.size = 67) := rz
  obtain ⟨Z, HZD⟩ : ∃ Z, Hid (Rep.zero.arr = Z) := ⟨_, rfl⟩
  rw [HZD.out] at hz40 HZS
  have hz44 := zero44
  have HZ4 : Hid (Ver.zero.arr.size = 65) := vz
  obtain ⟨Z4, HZD4⟩ : ∃ Z4, Hid (Ver.zero.arr = Z4) := ⟨_, rfl⟩
  rw [HZD4.out] at hz44 HZ4
  have hn := HNW.out w
  have hpg0 : 0 ≤ page % 8 := by omega
  have hpg8 : page % 8 < 8 := by omega
  go_enter Try.func6, Try.ntmps6
  go_upto_region 2 with (go_at_call 9; refine Calls.mono hn ?_; clear hn; rintro e W1 hnm; obtain ⟨g, rfl, ms0⟩ := MS.start hnm; clear hnm; have hs := HSM_oa.out W1)
  by_cases hl64 : (str.size : Int) > 64
  · have haw := HAW.out W1
    go_wp2_with (go_at_call 10; refine Calls.mono haw ?_; clear haw; rintro e W9 ⟨he, hb9⟩; obtain rfl := he)
    rw [HPP.out]
    exact ⟨rfl, ms0.bel.trans (hb9.mono ms0.bel.size)⟩
  · go_upto_region 5 with (go_at_call 11; refine Calls.mono hs ?_; clear hs; rintro e W2 ⟨he, hww⟩; rw [hww]; clear hww W2; obtain rfl := he)
    generalize (fun k => w.heap.size ≤ k ∧ k < W1.heap.size) = F0 at ms0
    clear HSM_oa
    go_loopw [11, 36] (fun p i wr => ∃ (j : Nat) (s : St) (F : Nat → Prop), i = .int .i64 j ∧ j ≤ n1 ∧ MS w F g s wr ∧ Hid (Ahead 8 1073741824 j s)) (fun _ i _ => n1 - (intOf i).toNat)
    case atStart => exact ⟨0, _, _, rfl, Nat.zero_le _, ms0, Ahead.start 8 1073741824⟩
    case round =>
      clear ms0
      obtain ⟨j, s, F, rfl, hj, ms, HA⟩ := hrel
      by_cases hlt : (j : Int) < n1
      · obtain ⟨a, c, rfl, hcj, hcok, hcell⟩ := HEL_oa.out j (by have := HNL_oa.out; omega)
        have hcell2 : ∀ i u, c.cells[i]? = some u → wr.cell? ((a.add (j * 5)).add i) = some u := fun i u h => cell_keep (hcell i u h) ms.bel
        have hz35 := zero35
        have rn : Row (wr.alloc (.cells #[.int .u8 0, .int .u64 0, .int .u16 0, .int .i64 0, .string ⟨#[]⟩] 35)) wr.heap.size #[.int .u8 0, .int .u64 0, .int .u16 0, .int .i64 0, .string ⟨#[]⟩] 35 := Row.new _ _ _
        obtain ⟨CE, HCE⟩ : ∃ CE, Hid (c.arr = CE) := ⟨_, rfl⟩
        have HAR : Hid (c.cells.toArray = CE) := by rw [← HCE.out]; rfl
        have HCS : Hid (CE.size = 5) := by rw [← HCE.out]; rfl
        have HCO : Hid (CE.all (·.oneCell') = true) := by rw [← HCE.out]; exact c.one
        have HC0 : Hid (CE[0]? = some (.int .u8 c.kind)) := by rw [← HCE.out]; rfl
        have HC1 : Hid (CE[1]? = some (.int .u64 c.txn)) := by rw [← HCE.out]; rfl
        have HOK : Hid c.Ok := hcok
        have b3 : Below wr.heap.size wr ((wr.alloc (.cells #[.int .u8 0, .int .u64 0, .int .u16 0, .int .i64 0, .string ⟨#[]⟩] 35)).setRow wr.heap.size CE) := below_setRow ((Below.refl _ _).alloc (Nat.le_refl _) _) (Nat.le_refl _) _
        have rX : Row ((wr.alloc (.cells #[.int .u8 0, .int .u64 0, .int .u16 0, .int .i64 0, .string ⟨#[]⟩] 35)).setRow wr.heap.size CE) wr.heap.size CE 35 := rn.set _
        have nX := ms.fresh
        have ms3 := ms.below b3
        have hj1 : ((j : Int) + 1) = ((j + 1 : Nat) : Int) := by omega
        have hw1 : IntKind.i64.wrap ((j : Int) + 1) = ((j + 1 : Nat) : Int) := by rw [IntKind.wrap_i64]; omega
        clear hj1 hcell hcj hcok ms
        have tl : Hid (1 = 1) := rfl
        have ts : Hid (1 = 1) := rfl
        go_upto_region 7 with (first
          | (have hh := tl; clear hh tl; refine wpList_load_any rfl 35 (.tmp 38) rfl _ rfl c.cells _ hcell2 Try.underlying35 rfl (by rw [size35]; rfl) ?_; rw [HAR.out])
          | (have hh := ts; clear hh ts; refine store_cells rfl 35 (.tmp 11) (.tmp 39) rfl wr.heap.size CE rfl rfl 35 _ rn 5 size35 rfl HCS.out HCO.out ?_))
        clear rn hcell2 b3 hz35
        generalize (wr.alloc (.cells #[.int .u8 0, .int .u64 0, .int .u16 0, .int .i64 0, .string ⟨#[]⟩] 35)).setRow wr.heap.size CE = W3 at rX ms3  ⊢
        generalize wr.heap.size = X at rX nX ⊢
        have e0 := row_at rX 0 _ HC0.out
        have e1 := row_at rX 1 _ HC1.out
        by_cases hk : c.kind < 7
        · have hd := ms3.call c HOK.out (by have := HA.out.begun; have := hn40_oa; omega)
          rw [HCE.out] at hd
          have tl : Hid (1 = 1) := rfl
          have HK : Hid (c.kind < 7) := hk
          go_wp2_with (first
            | (have hh := tl; clear hh tl; refine load_cells rfl 35 (.tmp 11) rfl X rfl 35 CE rX 5 Try.underlying35 rfl size35 HCS.out ?_)
            | (go_at_call 12; refine Calls.mono hd ?_; clear hd; rintro e W4 ⟨he, hst⟩; obtain rfl := he))
          obtain ⟨F4, ms4, of4, ff4⟩ := hst
          go_roundw
          case rel => exact ⟨j + 1, _, F4, by first | rfl | simp, by omega, ms4, HA.out.step c HK.out⟩
          case measure => simp only [intOf]; omega
        · go_wp2
          go_roundw
          case rel => exact ⟨j + 1, _, F, by first | rfl | simp, by omega, ms3, HA.out.mono (by omega)⟩
          case measure => simp only [intOf]; omega
      · go_upto_region 11 with fail
        generalize page % 8 = pg at hpg0 hpg8 ⊢
        have HOK : Hid s.Ok := ms.at_.ok
        have hp0 : pg < s.pages.length := by rw [HA.out.len]; exact hpg8
        have hcx : Calls Try.prog 12 #[.pointer (some ⟨g, 0, none⟩), .agg #[.int .u8 0, .int .u64 0, .int .u16 0, .int .i64 0, .string ⟨#[]⟩]] wr fun r w' => r = .returned (.agg (doR s cB).arr) ∧ Step w F g (doS s cB) wr w' := ms.call cB aw_ok.1 (by have := HA.out.begun; have := hn40_oa; omega)
        obtain ⟨st, HST⟩ : ∃ st, Hid (s.last = st) := ⟨_, rfl⟩
        have hst0 : 0 ≤ st ∧ st ≤ 1000 := by rw [← HST.out]; have := HA.out.last; have := HOK.out.lo; have := hn40_oa; omega
        obtain ⟨V, HV⟩ : ∃ V, Hid (atV (s.page pg) st = V) := ⟨_, rfl⟩
        have HVK : Hid V.Ok := by rw [← HV.out]; exact atV_ok (HOK.out.page hpg0 hp0) hst0.1
        obtain ⟨VW, HDVW⟩ : ∃ R, Hid ((V).arr = R) := ⟨_, rfl⟩
        have HVW : Hid (VW.size = 65 ∧ VW.all (·.oneCell') = true ∧ VW[0]? = some (.int .u32 (V).ts)) := by rw [← HDVW.out]; exact ⟨Ver.arr_size HVK.out, Ver.one _, rfl⟩
        by_cases hl8 : s.live.length < 8
        · obtain ⟨hb1, hb2, hb3, hb4, hb5, hb6, hb7⟩ := begun_has HOK.out HA.out.cl hl8
          rw [hb1] at hcx
          have HH1 : Hid (Has (doS s cB) (s.begun + 1) s.last []) := hb2
          have HQ1 : Hid ((doS s cB).page pg = s.page pg ∧ (doS s cB).last = st ∧ (doS s cB).pages.length = 8) := ⟨by unfold St.page; rw [hb4], by rw [hb5, HST.out], by rw [hb4, HA.out.len]⟩
          have HA2 : Hid (Ahead 8 1073741824 (n1 + 1) (doS s cB)) := (HA.out.step cB (by decide)).mono (by omega)
          obtain ⟨n0, HN0⟩ : ∃ n0, Hid (s.begun + 1 = n0) := ⟨_, rfl⟩
          obtain ⟨s1, HS1⟩ : ∃ s1, Hid (doS s cB = s1) := ⟨_, rfl⟩
          have hnn : 0 ≤ n0 ∧ n0 ≤ 1000 := by rw [← HN0.out]; have := HA.out.begun; have := HOK.out.pos; have := hn40_oa; omega
          rw [HN0.out, HST.out] at hcx HH1
          rw [HS1.out] at hcx HH1 HQ1 HA2
          obtain ⟨RX, HDRX⟩ : ∃ R, Hid ((Rep.mk 0 n0 st (zs 64)).arr = R) := ⟨_, rfl⟩
          have HRX : Hid (RX.size = 67 ∧ RX.all (·.oneCell') = true ∧ RX[0]? = some (.int .i64 (Rep.mk 0 n0 st (zs 64)).err) ∧ RX[1]? = some (.int .u64 (Rep.mk 0 n0 st (zs 64)).txn) ∧ RX[2]? = some (.int .u32 (Rep.mk 0 n0 st (zs 64)).ts)) := by rw [← HDRX.out]; exact ⟨Rep.arr_size (zs_length _), Rep.one _, rfl, rfl, rfl⟩
          rw [HDRX.out] at hcx
          clear hb1 hb2 hb3 hb4 hb5 hb6 hb7
          have hd := hcx
          have ts : Hid (1 = 1) := rfl
          go_upto_region 12 with (first
            | (go_at_call 12; refine Calls.mono hd ?_; clear hd; rintro e X12 ⟨he, hst⟩; obtain rfl := he; have rn : Row (X12.alloc (.cells Z 40)) X12.heap.size Z 40 := Row.new _ _ _)
            | (have hh := ts; clear hh ts; refine store_cells rfl 40 (.tmp 12) (.tmp 51) rfl X12.heap.size RX rfl rfl 40 _ rn 67 size40 HZS.out HRX.out.1 HRX.out.2.1 ?_))
          obtain ⟨F12, ms1, of12, ff12⟩ := hst
          have bn12 : Below X12.heap.size X12 ((X12.alloc (.cells Z 40)).setRow X12.heap.size RX) := below_setRow ((Below.refl _ _).alloc (Nat.le_refl _) _) (Nat.le_refl _) _
          have l_k12 : Loc F12 ((X12.alloc (.cells Z 40)).setRow X12.heap.size RX) X12.heap.size RX 40 := ⟨rn.set _, ms1.fresh⟩
          have ms1 := ms1.below bn12
          clear of12 ff12 rn bn12
          generalize (X12.alloc (.cells Z 40)).setRow X12.heap.size RX = Y12 at l_k12  ms1 ⊢
          generalize X12.heap.size = k12 at l_k12 ⊢
          clear hcx ms
          have hc14 := ms1.last
          rw [HQ1.out.2.1] at hc14
          have hc16 := ms1.at_page pg st hpg0 (by omega) hst0.1
          rw [HQ1.out.2.2, if_pos (by exact hpg8), HQ1.out.1, HV.out, HDVW.out] at hc16
          have hla := hc14
          have hat := hc16
          have rn : Hid (1 = 1) := rfl
          have ts : Hid (1 = 1) := rfl
          go_upto_region 13 with (first
            | (go_at_call 14; refine Calls.mono hla ?_; clear hla; rintro e W9 ⟨he, hww⟩; rw [hww]; clear hww W9; obtain rfl := he)
            | (go_at_call 16; refine Calls.mono hat ?_; clear hat; rintro e X13 ⟨he, ms2, hb13⟩; obtain rfl := he; have rn : Row (X13.alloc (.cells Z4 44)) X13.heap.size Z4 44 := Row.new _ _ _)
            | (have hh := ts; clear hh ts; refine store_cells rfl 44 (.tmp 13) (.tmp 56) rfl X13.heap.size VW rfl rfl 44 _ rn 65 size44 HZ4.out HVW.out.1 HVW.out.2.1 ?_))
          have bn13 : Below X13.heap.size X13 ((X13.alloc (.cells Z4 44)).setRow X13.heap.size VW) := below_setRow ((Below.refl _ _).alloc (Nat.le_refl _) _) (Nat.le_refl _) _
          have l_k13 : Loc F12 ((X13.alloc (.cells Z4 44)).setRow X13.heap.size VW) X13.heap.size VW 44 := ⟨rn.set _, ms2.fresh⟩
          have l_k12 := (l_k12.below hb13).below bn13
          have ms2 := ms2.below bn13
          clear rn bn13 hb13
          generalize (X13.alloc (.cells Z4 44)).setRow X13.heap.size VW = Y13 at l_k13 l_k12 ms2 ⊢
          generalize X13.heap.size = k13 at l_k13 ⊢
          have f2 : Y13.cell? ⟨k12, 1, none⟩ = some (.int .u64 n0) := row_at l_k12.1 1 _ HRX.out.2.2.2.1
          have hp1 : pg < s1.pages.length := by rw [HQ1.out.2.2]; exact hpg8
          have hcx : Calls Try.prog 12 #[.pointer (some ⟨g, 0, none⟩), .agg #[.int .u8 2, .int .u64 n0, .int .u16 pg, .int .i64 0, .string str]] Y13 fun r w' => r = .returned (.agg (doR s1 (cW n0 pg str)).arr) ∧ Step w F12 g (doS s1 (cW n0 pg str)) Y13 w' := ms2.call (cW n0 pg str) (cW_ok str (by omega) (by omega)) (by have := HA2.out.begun; have := hn40_oa; omega)
          obtain ⟨e1, e2, e3, e4, e5, e6⟩ := has_write HH1.out hpg0 hp1 (t := str) (by omega)
          rw [e1] at hcx
          rw [HQ1.out.1, HV.out] at e2
          have HH2 : Hid (Has (doS s1 (cW n0 pg str)) n0 st [(pg, wrote V.body 0 str)]) := e2
          have HQ3 : Hid ((doS s1 (cW n0 pg str)).page pg = s.page pg ∧ (doS s1 (cW n0 pg str)).last = st ∧ (doS s1 (cW n0 pg str)).pages.length = 8) := ⟨by unfold St.page; rw [e4]; exact HQ1.out.1, by rw [e5, HQ1.out.2.1], by rw [e4, HQ1.out.2.2]⟩
          have HA3 : Hid (Ahead 8 1073741824 (n1 + 2) (doS s1 (cW n0 pg str))) := HA2.out.step (cW n0 pg str) (by show (2 : Int) < 7; decide)
          have HBW : Hid (Wr (wrote V.body 0 str)) := wrote_wr HVK.out.wr (off := 0) (by omega)
          have HPR : Hid ((wrote V.body 0 str).take str.size = nums str) := wrote_take _ HVK.out.wr.1 _ (by omega)
          have HVT : Hid (atV (s.page pg) st = V) := HV.out
          obtain ⟨ba, HBA⟩ : ∃ ba, Hid (wrote V.body 0 str = ba) := ⟨_, rfl⟩
          obtain ⟨s2, HS2⟩ : ∃ s2, Hid (doS s1 (cW n0 pg str) = s2) := ⟨_, rfl⟩
          rw [HBA.out] at HH2 HBW HPR
          rw [HS2.out] at hcx HH2 HQ3 HA3
          clear e1 e2 e3 e4 e5 e6
          obtain ⟨RW, HDRW⟩ : ∃ R, Hid ((Rep.zero).arr = R) := ⟨_, rfl⟩
          have HRW : Hid (RW.size = 67 ∧ RW.all (·.oneCell') = true ∧ RW[0]? = some (.int .i64 (Rep.zero).err) ∧ RW[1]? = some (.int .u64 (Rep.zero).txn) ∧ RW[2]? = some (.int .u32 (Rep.zero).ts)) := by rw [← HDRW.out]; exact ⟨Rep.arr_size (zs_length _), Rep.one _, rfl, rfl, rfl⟩
          rw [HDRW.out] at hcx
          have hd := hcx
          have ts : Hid (1 = 1) := rfl
          go_upto_region 14 with (first
            | (go_at_call 12; refine Calls.mono hd ?_; clear hd; rintro e X14 ⟨he, hst⟩; obtain rfl := he; have rn : Row (X14.alloc (.cells Z 40)) X14.heap.size Z 40 := Row.new _ _ _)
            | (have hh := ts; clear hh ts; refine store_cells rfl 40 (.tmp 14) (.tmp 63) rfl X14.heap.size RW rfl rfl 40 _ rn 67 size40 HZS.out HRW.out.1 HRW.out.2.1 ?_))
          obtain ⟨F14, ms3, of14, ff14⟩ := hst
          have bn14 : Below X14.heap.size X14 ((X14.alloc (.cells Z 40)).setRow X14.heap.size RW) := below_setRow ((Below.refl _ _).alloc (Nat.le_refl _) _) (Nat.le_refl _) _
          have l_k14 : Loc F14 ((X14.alloc (.cells Z 40)).setRow X14.heap.size RW) X14.heap.size RW 40 := ⟨rn.set _, ms3.fresh⟩
          have l_k12 := (l_k12.step of14 ff14).below bn14
          have l_k13 := (l_k13.step of14 ff14).below bn14
          have ms3 := ms3.below bn14
          clear of14 ff14 rn bn14
          generalize (X14.alloc (.cells Z 40)).setRow X14.heap.size RW = Y14 at l_k14 l_k12 l_k13 ms3 ⊢
          generalize X14.heap.size = k14 at l_k14 ⊢
          clear hcx ms2 f2
          have hp2 : pg < s2.pages.length := by rw [HQ3.out.2.2]; exact hpg8
          have hev : ∀ w, (Op.equalIn 10000 44 (.agg V.arr) (.agg V.arr)).run Try.prog w = .ok true w := fun w => by rw [equal44 _ _ HVK.out.wr.1 HVK.out.wr.1]; simp
          rw [HDVW.out] at hev
          have HEND : Hid (∀ W, MS w F14 g s2 W → Calls Try.prog 16 #[.pointer (some ⟨g, 0, none⟩), .int .u16 pg, .int .u32 st] W fun r w' => r = .returned (.agg VW) ∧ MS w F14 g s2 w' ∧ Below W.heap.size W w') := fun W h => by
            have q := h.at_page pg st hpg0 (by omega) hst0.1
            rw [HQ3.out.2.2, if_pos (by exact hpg8), HQ3.out.1, HVT.out, HDVW.out] at q
            exact q
          refine wp_region_held_drew (S := fun w' => MS w F14 g s2 w' ∧ Loc F14 w' k12 RX 40 ∧ Loc F14 w' k13 VW 44 ∧ Loc F14 w' k14 RW 40) (by kernel_rfl) ⟨ms3.below (below_drew _), l_k12.below (below_drew _), l_k13.below (below_drew _), l_k14.below (below_drew _)⟩ fun hS => ?_
          clear ms3 l_k12 l_k13 l_k14
          refine wpAnyH_take (i := 0) (v := .pointer (some ⟨k12, 0, none⟩)) rfl (by kernel_rfl) (by kernel_rfl) (by kernel_rfl) (fun _ _ _ h => h) (Or.inl ⟨by rfl, fun w _ => by go_simp⟩) hS ?_
          try simp only [Act.put, List.getElem_toArray, List.getElem_cons_zero, List.getElem_cons_succ, List.setIfInBounds_toArray, List.set_cons_zero, List.set_cons_succ]
          refine wpAnyH_take (i := 1) (v := .int .i64 0) rfl (by kernel_rfl) (by kernel_rfl) (by kernel_rfl) (fun _ _ _ h => h) (Or.inl ⟨by rfl, fun w h => by have c : w.cell? ⟨k12, 0, none⟩ = some (.int .i64 0) := row_at h.2.1.1 0 _ HRX.out.2.2.1; go_simp⟩) hS ?_
          try simp only [Act.put, List.getElem_toArray, List.getElem_cons_zero, List.getElem_cons_succ, List.setIfInBounds_toArray, List.set_cons_zero, List.set_cons_succ]
          refine wpAnyH_take (i := 2) (v := .bool false) rfl (by kernel_rfl) (by kernel_rfl) (by kernel_rfl) (fun _ _ _ h => h) (Or.inl ⟨by rfl, fun w _ => by go_simp⟩) hS ?_
          try simp only [Act.put, List.getElem_toArray, List.getElem_cons_zero, List.getElem_cons_succ, List.setIfInBounds_toArray, List.set_cons_zero, List.set_cons_succ]
          refine wpAnyH_take (i := 3) (v := .bool false) rfl (by kernel_rfl) (by kernel_rfl) (by kernel_rfl) (fun _ _ _ h => h) (Or.inl ⟨by rfl, fun w _ => by rfl⟩) hS ?_
          try simp only [Act.put, List.getElem_toArray, List.getElem_cons_zero, List.getElem_cons_succ, List.setIfInBounds_toArray, List.set_cons_zero, List.set_cons_succ]
          refine wpAnyH_take (i := 4) (v := .pointer (some ⟨g, 0, none⟩)) rfl (by kernel_rfl) (by kernel_rfl) (by kernel_rfl) (fun _ _ _ h => h) (Or.inl ⟨by rfl, fun w _ => by rfl⟩) hS ?_
          try simp only [Act.put, List.getElem_toArray, List.getElem_cons_zero, List.getElem_cons_succ, List.setIfInBounds_toArray, List.set_cons_zero, List.set_cons_succ]
          refine wpAnyH_take (i := 5) (v := .int .u16 pg) rfl (by kernel_rfl) (by kernel_rfl) (by kernel_rfl) (fun _ _ _ h => h) (Or.inl ⟨by rfl, fun w _ => by rfl⟩) hS ?_
          try simp only [Act.put, List.getElem_toArray, List.getElem_cons_zero, List.getElem_cons_succ, List.setIfInBounds_toArray, List.set_cons_zero, List.set_cons_succ]
          refine wpAnyH_take (i := 6) (v := .pointer (some ⟨g, 0, none⟩)) rfl (by kernel_rfl) (by kernel_rfl) (by kernel_rfl) (fun _ _ _ h => h) (Or.inl ⟨by rfl, fun w _ => by rfl⟩) hS ?_
          try simp only [Act.put, List.getElem_toArray, List.getElem_cons_zero, List.getElem_cons_succ, List.setIfInBounds_toArray, List.set_cons_zero, List.set_cons_succ]
          refine wpAnyH_take (i := 9) (v := .agg VW) rfl (by kernel_rfl) (by kernel_rfl) (by kernel_rfl) (fun _ _ _ h => h) (yields_cells (by rfl) 44 (.tmp 13) rfl k13 rfl 44 VW (fun w h => h.2.2.1.1) 65 Try.underlying44 rfl size44 HVW.out.1) hS ?_
          try simp only [Act.put, List.getElem_toArray, List.getElem_cons_zero, List.getElem_cons_succ, List.setIfInBounds_toArray, List.set_cons_zero, List.set_cons_succ]
          generalize Y14.drew = W8 at hS ⊢
          have hla := hS.1.last
          rw [HQ3.out.2.1] at hla
          refine wpAnyH_ready (rs := [7]) (by kernel_rfl) (by simp) ?_
          refine AllReadyH.cons rfl (fun K hK => ?_) AllReadyH.nil
          go_simp
          go_at_call 14
          refine Calls.mono hla ?_
          rintro e wc ⟨he, hww⟩
          obtain rfl := he
          rw [hww]
          clear hww wc hla
          refine hK.out _ _ hS fun hS => ?_
          try simp only [Act.put, List.getElem_toArray, List.getElem_cons_zero, List.getElem_cons_succ, List.setIfInBounds_toArray, List.set_cons_zero, List.set_cons_succ]
          have hat := HEND.out _ hS.1
          refine wpAnyH_ready (rs := [8]) (by kernel_rfl) (by simp) ?_
          refine AllReadyH.cons rfl (fun K hK => ?_) AllReadyH.nil
          go_simp
          go_at_call 16
          refine Calls.mono hat ?_
          rintro e wc ⟨he, ms9, hcb⟩
          obtain rfl := he
          refine hK.out _ _ ⟨ms9, hS.2.1.below hcb, hS.2.2.1.below hcb, hS.2.2.2.below hcb⟩ fun hS => ?_
          try simp only [Act.put, List.getElem_toArray, List.getElem_cons_zero, List.getElem_cons_succ, List.setIfInBounds_toArray, List.set_cons_zero, List.set_cons_succ]
          clear hcb hat ms9
          refine wpAnyH_take (i := 10) (v := .bool false) rfl (by kernel_rfl) (by kernel_rfl) (by kernel_rfl) (fun _ _ _ h => h) (Or.inl ⟨by rfl, fun w h => by have c := hev; go_simp⟩) hS ?_
          try simp only [Act.put, List.getElem_toArray, List.getElem_cons_zero, List.getElem_cons_succ, List.setIfInBounds_toArray, List.set_cons_zero, List.set_cons_succ]
          refine wpAnyH_take (i := 11) (v := .bool false) rfl (by kernel_rfl) (by kernel_rfl) (by kernel_rfl) (fun _ _ _ h => h) (Or.inl ⟨by rfl, fun w _ => by go_simp⟩) hS ?_
          try simp only [Act.put, List.getElem_toArray, List.getElem_cons_zero, List.getElem_cons_succ, List.setIfInBounds_toArray, List.set_cons_zero, List.set_cons_succ]
          refine wpAnyH_done (by kernel_rfl) ?_ _
          obtain ⟨ms3, l_k12, l_k13, l_k14⟩ := hS
          go_upto_region 16 with fail
          have f2 : wc.cell? ⟨k12, 1, none⟩ = some (.int .u64 n0) := row_at l_k12.1 1 _ HRX.out.2.2.2.1
          have hcx : Calls Try.prog 12 #[.pointer (some ⟨g, 0, none⟩), .agg #[.int .u8 1, .int .u64 n0, .int .u16 pg, .int .i64 0, .string ⟨#[]⟩]] wc fun r w' => r = .returned (.agg (doR s2 (cR n0 pg)).arr) ∧ Step w F14 g (doS s2 (cR n0 pg)) wc w' := ms3.call (cR n0 pg) (cR_ok (by omega) (by omega)) (by have := HA3.out.begun; have := hn40_oa; omega)
          rw [(has_read HH2.out hp2).1, (has_read HH2.out hp2).2, seen_own] at hcx
          obtain ⟨RO, HDRO⟩ : ∃ R, Hid ((Rep.mk 0 0 st ba).arr = R) := ⟨_, rfl⟩
          have HRO : Hid (RO.size = 67 ∧ RO.all (·.oneCell') = true ∧ RO[0]? = some (.int .i64 (Rep.mk 0 0 st ba).err) ∧ RO[1]? = some (.int .u64 (Rep.mk 0 0 st ba).txn) ∧ RO[2]? = some (.int .u32 (Rep.mk 0 0 st ba).ts)) := by rw [← HDRO.out]; exact ⟨Rep.arr_size HBW.out.1, Rep.one _, rfl, rfl, rfl⟩
          rw [HDRO.out] at hcx
          have hd := hcx
          have ts : Hid (1 = 1) := rfl
          go_upto_region 17 with (first
            | (go_at_call 12; refine Calls.mono hd ?_; clear hd; rintro e X15 ⟨he, hst⟩; obtain rfl := he; have rn : Row (X15.alloc (.cells Z 40)) X15.heap.size Z 40 := Row.new _ _ _)
            | (have hh := ts; clear hh ts; refine store_cells rfl 40 (.tmp 15) (.tmp 92) rfl X15.heap.size RO rfl rfl 40 _ rn 67 size40 HZS.out HRO.out.1 HRO.out.2.1 ?_))
          obtain ⟨F15, ms4, of15, ff15⟩ := hst
          have bn15 : Below X15.heap.size X15 ((X15.alloc (.cells Z 40)).setRow X15.heap.size RO) := below_setRow ((Below.refl _ _).alloc (Nat.le_refl _) _) (Nat.le_refl _) _
          have l_k15 : Loc F15 ((X15.alloc (.cells Z 40)).setRow X15.heap.size RO) X15.heap.size RO 40 := ⟨rn.set _, ms4.fresh⟩
          have l_k12 := (l_k12.step of15 ff15).below bn15
          have l_k13 := (l_k13.step of15 ff15).below bn15
          have l_k14 := (l_k14.step of15 ff15).below bn15
          have ms4 := ms4.below bn15
          clear of15 ff15 rn bn15
          generalize (X15.alloc (.cells Z 40)).setRow X15.heap.size RO = Y15 at l_k15 l_k12 l_k13 l_k14 ms4 ⊢
          generalize X15.heap.size = k15 at l_k15 ⊢
          clear hcx ms3 f2 HEND hev
          cases cm with
          | true =>
            go_upto_region 20 with fail
            have f2 : Y15.cell? ⟨k12, 1, none⟩ = some (.int .u64 n0) := row_at l_k12.1 1 _ HRX.out.2.2.2.1
            have hcx : Calls Try.prog 12 #[.pointer (some ⟨g, 0, none⟩), .agg #[.int .u8 3, .int .u64 n0, .int .u16 0, .int .i64 0, .string ⟨#[]⟩]] Y15 fun r w' => r = .returned (.agg (doR s2 (cE 3 n0)).arr) ∧ Step w F15 g (doS s2 (cE 3 n0)) Y15 w' := ms4.call (cE 3 n0) (cE_ok (Or.inl rfl) (by omega)) (by have := HA3.out.begun; have := hn40_oa; omega)
            obtain ⟨e1, e2, e3, e4, e5, e6, e7⟩ := has_commit ms4.at_.ok HH2.out hpg0 hp2 HQ3.out.2.1.symm (by rw [HQ3.out.2.1, HA3.out.max]; omega)
            rw [e1, HQ3.out.2.1] at hcx
            rw [HQ3.out.2.1] at e2 e3
            have HAV : Hid (atV ((doS s2 (cE 3 n0)).page pg) (doS s2 (cE 3 n0)).last = ⟨st + 1, ba⟩ ∧ (doS s2 (cE 3 n0)).last = st + 1 ∧ (doS s2 (cE 3 n0)).pages.length = 8 ∧ (doS s2 (cE 3 n0)).closed = false ∧ findL (doS s2 (cE 3 n0)).live n0 = none) := ⟨by rw [e2, e3, atV_snoc, if_pos (Int.le_refl _)], e3, e7.trans HA3.out.len, e6, by rw [e5, findL_end, if_pos rfl]⟩
            clear e1 e2 e3 e4 e5 e6 e7
            have HA4 : Hid (Ahead 8 1073741824 (n1 + 3) (doS s2 (cE 3 n0))) := HA3.out.step (cE 3 n0) (by show (3 : Int) < 7; decide)
            obtain ⟨RE, HDRE⟩ : ∃ R, Hid ((Rep.mk 0 0 (st + 1) (zs 64)).arr = R) := ⟨_, rfl⟩
            have HRE : Hid (RE.size = 67 ∧ RE.all (·.oneCell') = true ∧ RE[0]? = some (.int .i64 (Rep.mk 0 0 (st + 1) (zs 64)).err) ∧ RE[1]? = some (.int .u64 (Rep.mk 0 0 (st + 1) (zs 64)).txn) ∧ RE[2]? = some (.int .u32 (Rep.mk 0 0 (st + 1) (zs 64)).ts)) := by rw [← HDRE.out]; exact ⟨Rep.arr_size (zs_length _), Rep.one _, rfl, rfl, rfl⟩
            rw [HDRE.out] at hcx
            obtain ⟨s3, HS3⟩ : ∃ s3, Hid (doS s2 (cE 3 n0) = s3) := ⟨_, rfl⟩
            rw [HS3.out] at hcx HAV HA4
            have hd := hcx
            have ts : Hid (1 = 1) := rfl
            go_upto_region 21 with (first
              | (go_at_call 12; refine Calls.mono hd ?_; clear hd; rintro e X17 ⟨he, hst⟩; obtain rfl := he; have rn : Row (X17.alloc (.cells Z 40)) X17.heap.size Z 40 := Row.new _ _ _)
              | (have hh := ts; clear hh ts; refine store_cells rfl 40 (.tmp 17) (.tmp 99) rfl X17.heap.size RE rfl rfl 40 _ rn 67 size40 HZS.out HRE.out.1 HRE.out.2.1 ?_))
            obtain ⟨F17, ms5, of17, ff17⟩ := hst
            have bn17 : Below X17.heap.size X17 ((X17.alloc (.cells Z 40)).setRow X17.heap.size RE) := below_setRow ((Below.refl _ _).alloc (Nat.le_refl _) _) (Nat.le_refl _) _
            have l_k17 : Loc F17 ((X17.alloc (.cells Z 40)).setRow X17.heap.size RE) X17.heap.size RE 40 := ⟨rn.set _, ms5.fresh⟩
            have l_k12 := (l_k12.step of17 ff17).below bn17
            have l_k13 := (l_k13.step of17 ff17).below bn17
            have l_k14 := (l_k14.step of17 ff17).below bn17
            have l_k15 := (l_k15.step of17 ff17).below bn17
            have ms5 := ms5.below bn17
            clear of17 ff17 rn bn17
            generalize (X17.alloc (.cells Z 40)).setRow X17.heap.size RE = Y17 at l_k17 l_k12 l_k13 l_k14 l_k15 ms5 ⊢
            generalize X17.heap.size = k17 at l_k17 ⊢
            clear hcx ms4 f2
            have hc14 := ms5.last
            have hc16 := ms5.at_page pg s3.last hpg0 (by omega) ms5.at_.ok.lo
            rw [HAV.out.2.2.1, if_pos (by exact hpg8), HAV.out.1] at hc16
            have HVO2 : Hid (Ver.Ok ⟨st + 1, ba⟩) := ⟨by show (0 : Int) ≤ st + 1; omega, by show st + 1 ≤ 4294967295; omega, HBW.out⟩
            obtain ⟨VV, HDVV⟩ : ∃ R, Hid ((Ver.mk (st + 1) ba).arr = R) := ⟨_, rfl⟩
            have HVV : Hid (VV.size = 65 ∧ VV.all (·.oneCell') = true ∧ VV[0]? = some (.int .u32 (Ver.mk (st + 1) ba).ts)) := by rw [← HDVV.out]; exact ⟨Ver.arr_size HVO2.out, Ver.one _, rfl⟩
            rw [HDVV.out] at hc16
            have hla := hc14
            have hat := hc16
            have rn : Hid (1 = 1) := rfl
            have ts : Hid (1 = 1) := rfl
            go_upto_region 22 with (first
              | (go_at_call 14; refine Calls.mono hla ?_; clear hla; rintro e W9 ⟨he, hww⟩; rw [hww]; clear hww W9; obtain rfl := he)
              | (go_at_call 16; refine Calls.mono hat ?_; clear hat; rintro e X18 ⟨he, ms6, hb18⟩; obtain rfl := he; have rn : Row (X18.alloc (.cells Z4 44)) X18.heap.size Z4 44 := Row.new _ _ _)
              | (have hh := ts; clear hh ts; refine store_cells rfl 44 (.tmp 18) (.tmp 104) rfl X18.heap.size VV rfl rfl 44 _ rn 65 size44 HZ4.out HVV.out.1 HVV.out.2.1 ?_))
            have bn18 : Below X18.heap.size X18 ((X18.alloc (.cells Z4 44)).setRow X18.heap.size VV) := below_setRow ((Below.refl _ _).alloc (Nat.le_refl _) _) (Nat.le_refl _) _
            have l_k18 : Loc F17 ((X18.alloc (.cells Z4 44)).setRow X18.heap.size VV) X18.heap.size VV 44 := ⟨rn.set _, ms6.fresh⟩
            have l_k12 := (l_k12.below hb18).below bn18
            have l_k13 := (l_k13.below hb18).below bn18
            have l_k14 := (l_k14.below hb18).below bn18
            have l_k15 := (l_k15.below hb18).below bn18
            have l_k17 := (l_k17.below hb18).below bn18
            have ms6 := ms6.below bn18
            clear rn bn18 hb18
            generalize (X18.alloc (.cells Z4 44)).setRow X18.heap.size VV = Y18 at l_k18 l_k12 l_k13 l_k14 l_k15 l_k17 ms6 ⊢
            generalize X18.heap.size = k18 at l_k18 ⊢
            have f2 : Y18.cell? ⟨k12, 1, none⟩ = some (.int .u64 n0) := row_at l_k12.1 1 _ HRX.out.2.2.2.1
            have hcx : Calls Try.prog 12 #[.pointer (some ⟨g, 0, none⟩), .agg #[.int .u8 3, .int .u64 n0, .int .u16 0, .int .i64 0, .string ⟨#[]⟩]] Y18 fun r w' => r = .returned (.agg (doR s3 (cE 3 n0)).arr) ∧ Step w F17 g (doS s3 (cE 3 n0)) Y18 w' := ms6.call (cE 3 n0) (cE_ok (Or.inl rfl) (by omega)) (by have := HA4.out.begun; have := hn40_oa; omega)
            rw [(end_none' HAV.out.2.2.2.1 (d := 3) (Or.inl rfl) HAV.out.2.2.2.2).1, (end_none' HAV.out.2.2.2.1 (d := 3) (Or.inl rfl) HAV.out.2.2.2.2).2] at hcx
            obtain ⟨RG, HDRG⟩ : ∃ R, Hid ((Rep.fail 9).arr = R) := ⟨_, rfl⟩
            have HRG : Hid (RG.size = 67 ∧ RG.all (·.oneCell') = true ∧ RG[0]? = some (.int .i64 (Rep.fail 9).err) ∧ RG[1]? = some (.int .u64 (Rep.fail 9).txn) ∧ RG[2]? = some (.int .u32 (Rep.fail 9).ts)) := by rw [← HDRG.out]; exact ⟨Rep.arr_size (zs_length _), Rep.one _, rfl, rfl, rfl⟩
            rw [HDRG.out] at hcx
            have hd := hcx
            have ts : Hid (1 = 1) := rfl
            go_upto_region 23 with (first
              | (go_at_call 12; refine Calls.mono hd ?_; clear hd; rintro e X19 ⟨he, hst⟩; obtain rfl := he; have rn : Row (X19.alloc (.cells Z 40)) X19.heap.size Z 40 := Row.new _ _ _)
              | (have hh := ts; clear hh ts; refine store_cells rfl 40 (.tmp 19) (.tmp 110) rfl X19.heap.size RG rfl rfl 40 _ rn 67 size40 HZS.out HRG.out.1 HRG.out.2.1 ?_))
            obtain ⟨F19, ms7, of19, ff19⟩ := hst
            have bn19 : Below X19.heap.size X19 ((X19.alloc (.cells Z 40)).setRow X19.heap.size RG) := below_setRow ((Below.refl _ _).alloc (Nat.le_refl _) _) (Nat.le_refl _) _
            have l_k19 : Loc F19 ((X19.alloc (.cells Z 40)).setRow X19.heap.size RG) X19.heap.size RG 40 := ⟨rn.set _, ms7.fresh⟩
            have l_k12 := (l_k12.step of19 ff19).below bn19
            have l_k13 := (l_k13.step of19 ff19).below bn19
            have l_k14 := (l_k14.step of19 ff19).below bn19
            have l_k15 := (l_k15.step of19 ff19).below bn19
            have l_k17 := (l_k17.step of19 ff19).below bn19
            have l_k18 := (l_k18.step of19 ff19).below bn19
            have ms7 := ms7.below bn19
            clear of19 ff19 rn bn19
            generalize (X19.alloc (.cells Z 40)).setRow X19.heap.size RG = Y19 at l_k19 l_k12 l_k13 l_k14 l_k15 l_k17 l_k18 ms7 ⊢
            generalize X19.heap.size = k19 at l_k19 ⊢
            clear hcx ms6 f2
            have g1 : Y19.cell? ⟨k19, 0, none⟩ = some (.int .i64 9) := row_at l_k19.1 0 _ HRG.out.2.2.1
            have haw := HAW.out Y19
            have g2 : Y19.cell? ⟨k17, 0, none⟩ = some (.int .i64 0) := row_at l_k17.1 0 _ HRE.out.2.2.1
            have g3 : Y19.cell? ⟨k17, 2, none⟩ = some (.int .u32 (st + 1)) := row_at l_k17.1 2 _ HRE.out.2.2.2.2
            have r18 := l_k18.1
            have hv2 := rbody_cells HDRO.out l_k15.1
            simp only at hv2
            have bv := built44_two (st + 1) ba HBW.out.1
            have hevv : ∀ w, (Op.equalIn 10000 44 (.agg (Ver.mk (st + 1) ba).arr) (.agg (Ver.mk (st + 1) ba).arr)).run Try.prog w = .ok true w := fun w => by rw [equal44 _ _ HBW.out.1 HBW.out.1]; simp
            rw [HDVV.out] at bv hevv
            have hsl : ∀ w, (Instr.sliceAt 38 (.pointer (some ⟨k15, 3, none⟩)) none (some (.int .i64 (str.size : Int))) none).run Try.prog w = .ok (.slice (some ⟨k15, 3, none⟩) str.size 64) w := fun w => slice38h k15 3 str.size (by omega) w
            have hcv : (Go.convert 49 9 (.slice (some ⟨k15, 3, none⟩) str.size 64)).run Try.prog Y19 = .ok (.string str) Y19 := conv49 hv2 HPR.out HBW.out.1 (by omega)
            have HBL : Hid ((ba.map (Value.int .u8)).length = 64) := by show _ = _; rw [List.length_map]; exact HBW.out.1
            have HBS : Hid ((ba.map (Value.int .u8)).toArray = bs ba) := rfl
            obtain ⟨BL, HBLD⟩ : ∃ BL, Hid (ba.map (Value.int .u8) = BL) := ⟨_, rfl⟩
            obtain ⟨BS, HBSD⟩ : ∃ BS, Hid (bs ba = BS) := ⟨_, rfl⟩
            rw [HBLD.out] at hv2 HBL HBS
            rw [HBSD.out] at HBS bv
            have t1 : Hid (1 = 1) := rfl
            have t2 : Hid (1 = 1) := rfl
            have t3 : Hid (1 = 1) := rfl
            go_wp2_with (first
              | (have hh := t1; clear hh t1; refine load_cells_g (by rfl) 44 (.tmp 18) rfl k18 rfl 44 VV r18 65 Try.underlying44 rfl size44 HVV.out.1 ?_)
              | (have hh := t2; clear hh t2; refine load_any_g (by rfl) 38 (.tmp 136) rfl ⟨k15, 3, none⟩ rfl BL _ hv2 Try.underlying38 rfl (by rw [size38, HBL.out]) ?_; rw [HBS.out])
              | (have hh := t3; clear hh t3; refine build_cells_g (by rfl) 44 #[(0, .tmp 135), (1, .tmp 137)] rfl _ rfl VV bv ?_)
              | (go_at_call 10; refine Calls.mono haw ?_; clear haw; rintro e W9 ⟨he, hb9⟩; obtain rfl := he))
            rw [HPP.out]
            exact ⟨rfl, ms7.bel.trans (hb9.mono ms7.bel.size)⟩
          | false =>
            go_upto_region 20 with fail
            have f2 : Y15.cell? ⟨k12, 1, none⟩ = some (.int .u64 n0) := row_at l_k12.1 1 _ HRX.out.2.2.2.1
            have hcx : Calls Try.prog 12 #[.pointer (some ⟨g, 0, none⟩), .agg #[.int .u8 4, .int .u64 n0, .int .u16 0, .int .i64 0, .string ⟨#[]⟩]] Y15 fun r w' => r = .returned (.agg (doR s2 (cE 4 n0)).arr) ∧ Step w F15 g (doS s2 (cE 4 n0)) Y15 w' := ms4.call (cE 4 n0) (cE_ok (Or.inr rfl) (by omega)) (by have := HA3.out.begun; have := hn40_oa; omega)
            obtain ⟨e1, e2⟩ := has_abort HH2.out
            rw [e1] at hcx
            have HAV : Hid (atV ((doS s2 (cE 4 n0)).page pg) (doS s2 (cE 4 n0)).last = V ∧ (doS s2 (cE 4 n0)).last = st ∧ (doS s2 (cE 4 n0)).pages.length = 8 ∧ (doS s2 (cE 4 n0)).closed = false ∧ findL (doS s2 (cE 4 n0)).live n0 = none) := by
              rw [e2]
              refine ⟨?_, HQ3.out.2.1, HQ3.out.2.2, HA3.out.cl, by show findL (endL s2.live n0) n0 = none; rw [findL_end, if_pos rfl]⟩
              show atV (s2.page pg) s2.last = V
              rw [HQ3.out.2.1, HQ3.out.1, HVT.out]
            clear e1 e2
            have HA4 : Hid (Ahead 8 1073741824 (n1 + 3) (doS s2 (cE 4 n0))) := HA3.out.step (cE 4 n0) (by show (4 : Int) < 7; decide)
            obtain ⟨RE, HDRE⟩ : ∃ R, Hid ((Rep.zero).arr = R) := ⟨_, rfl⟩
            have HRE : Hid (RE.size = 67 ∧ RE.all (·.oneCell') = true ∧ RE[0]? = some (.int .i64 (Rep.zero).err) ∧ RE[1]? = some (.int .u64 (Rep.zero).txn) ∧ RE[2]? = some (.int .u32 (Rep.zero).ts)) := by rw [← HDRE.out]; exact ⟨Rep.arr_size (zs_length _), Rep.one _, rfl, rfl, rfl⟩
            rw [HDRE.out] at hcx
            obtain ⟨s3, HS3⟩ : ∃ s3, Hid (doS s2 (cE 4 n0) = s3) := ⟨_, rfl⟩
            rw [HS3.out] at hcx HAV HA4
            have hd := hcx
            have ts : Hid (1 = 1) := rfl
            go_upto_region 21 with (first
              | (go_at_call 12; refine Calls.mono hd ?_; clear hd; rintro e X17 ⟨he, hst⟩; obtain rfl := he; have rn : Row (X17.alloc (.cells Z 40)) X17.heap.size Z 40 := Row.new _ _ _)
              | (have hh := ts; clear hh ts; refine store_cells rfl 40 (.tmp 17) (.tmp 99) rfl X17.heap.size RE rfl rfl 40 _ rn 67 size40 HZS.out HRE.out.1 HRE.out.2.1 ?_))
            obtain ⟨F17, ms5, of17, ff17⟩ := hst
            have bn17 : Below X17.heap.size X17 ((X17.alloc (.cells Z 40)).setRow X17.heap.size RE) := below_setRow ((Below.refl _ _).alloc (Nat.le_refl _) _) (Nat.le_refl _) _
            have l_k17 : Loc F17 ((X17.alloc (.cells Z 40)).setRow X17.heap.size RE) X17.heap.size RE 40 := ⟨rn.set _, ms5.fresh⟩
            have l_k12 := (l_k12.step of17 ff17).below bn17
            have l_k13 := (l_k13.step of17 ff17).below bn17
            have l_k14 := (l_k14.step of17 ff17).below bn17
            have l_k15 := (l_k15.step of17 ff17).below bn17
            have ms5 := ms5.below bn17
            clear of17 ff17 rn bn17
            generalize (X17.alloc (.cells Z 40)).setRow X17.heap.size RE = Y17 at l_k17 l_k12 l_k13 l_k14 l_k15 ms5 ⊢
            generalize X17.heap.size = k17 at l_k17 ⊢
            clear hcx ms4 f2
            have hc14 := ms5.last
            have hc16 := ms5.at_page pg s3.last hpg0 (by omega) ms5.at_.ok.lo
            rw [HAV.out.2.2.1, if_pos (by exact hpg8), HAV.out.1] at hc16
            rw [HDVW.out] at hc16
            have hla := hc14
            have hat := hc16
            have rn : Hid (1 = 1) := rfl
            have ts : Hid (1 = 1) := rfl
            go_upto_region 22 with (first
              | (go_at_call 14; refine Calls.mono hla ?_; clear hla; rintro e W9 ⟨he, hww⟩; rw [hww]; clear hww W9; obtain rfl := he)
              | (go_at_call 16; refine Calls.mono hat ?_; clear hat; rintro e X18 ⟨he, ms6, hb18⟩; obtain rfl := he; have rn : Row (X18.alloc (.cells Z4 44)) X18.heap.size Z4 44 := Row.new _ _ _)
              | (have hh := ts; clear hh ts; refine store_cells rfl 44 (.tmp 18) (.tmp 104) rfl X18.heap.size VW rfl rfl 44 _ rn 65 size44 HZ4.out HVW.out.1 HVW.out.2.1 ?_))
            have bn18 : Below X18.heap.size X18 ((X18.alloc (.cells Z4 44)).setRow X18.heap.size VW) := below_setRow ((Below.refl _ _).alloc (Nat.le_refl _) _) (Nat.le_refl _) _
            have l_k18 : Loc F17 ((X18.alloc (.cells Z4 44)).setRow X18.heap.size VW) X18.heap.size VW 44 := ⟨rn.set _, ms6.fresh⟩
            have l_k12 := (l_k12.below hb18).below bn18
            have l_k13 := (l_k13.below hb18).below bn18
            have l_k14 := (l_k14.below hb18).below bn18
            have l_k15 := (l_k15.below hb18).below bn18
            have l_k17 := (l_k17.below hb18).below bn18
            have ms6 := ms6.below bn18
            clear rn bn18 hb18
            generalize (X18.alloc (.cells Z4 44)).setRow X18.heap.size VW = Y18 at l_k18 l_k12 l_k13 l_k14 l_k15 l_k17 ms6 ⊢
            generalize X18.heap.size = k18 at l_k18 ⊢
            have f2 : Y18.cell? ⟨k12, 1, none⟩ = some (.int .u64 n0) := row_at l_k12.1 1 _ HRX.out.2.2.2.1
            have hcx : Calls Try.prog 12 #[.pointer (some ⟨g, 0, none⟩), .agg #[.int .u8 4, .int .u64 n0, .int .u16 0, .int .i64 0, .string ⟨#[]⟩]] Y18 fun r w' => r = .returned (.agg (doR s3 (cE 4 n0)).arr) ∧ Step w F17 g (doS s3 (cE 4 n0)) Y18 w' := ms6.call (cE 4 n0) (cE_ok (Or.inr rfl) (by omega)) (by have := HA4.out.begun; have := hn40_oa; omega)
            rw [(end_none' HAV.out.2.2.2.1 (d := 4) (Or.inr rfl) HAV.out.2.2.2.2).1, (end_none' HAV.out.2.2.2.1 (d := 4) (Or.inr rfl) HAV.out.2.2.2.2).2] at hcx
            obtain ⟨RG, HDRG⟩ : ∃ R, Hid ((Rep.fail 9).arr = R) := ⟨_, rfl⟩
            have HRG : Hid (RG.size = 67 ∧ RG.all (·.oneCell') = true ∧ RG[0]? = some (.int .i64 (Rep.fail 9).err) ∧ RG[1]? = some (.int .u64 (Rep.fail 9).txn) ∧ RG[2]? = some (.int .u32 (Rep.fail 9).ts)) := by rw [← HDRG.out]; exact ⟨Rep.arr_size (zs_length _), Rep.one _, rfl, rfl, rfl⟩
            rw [HDRG.out] at hcx
            have hd := hcx
            have ts : Hid (1 = 1) := rfl
            go_upto_region 23 with (first
              | (go_at_call 12; refine Calls.mono hd ?_; clear hd; rintro e X19 ⟨he, hst⟩; obtain rfl := he; have rn : Row (X19.alloc (.cells Z 40)) X19.heap.size Z 40 := Row.new _ _ _)
              | (have hh := ts; clear hh ts; refine store_cells rfl 40 (.tmp 19) (.tmp 110) rfl X19.heap.size RG rfl rfl 40 _ rn 67 size40 HZS.out HRG.out.1 HRG.out.2.1 ?_))
            obtain ⟨F19, ms7, of19, ff19⟩ := hst
            have bn19 : Below X19.heap.size X19 ((X19.alloc (.cells Z 40)).setRow X19.heap.size RG) := below_setRow ((Below.refl _ _).alloc (Nat.le_refl _) _) (Nat.le_refl _) _
            have l_k19 : Loc F19 ((X19.alloc (.cells Z 40)).setRow X19.heap.size RG) X19.heap.size RG 40 := ⟨rn.set _, ms7.fresh⟩
            have l_k12 := (l_k12.step of19 ff19).below bn19
            have l_k13 := (l_k13.step of19 ff19).below bn19
            have l_k14 := (l_k14.step of19 ff19).below bn19
            have l_k15 := (l_k15.step of19 ff19).below bn19
            have l_k17 := (l_k17.step of19 ff19).below bn19
            have l_k18 := (l_k18.step of19 ff19).below bn19
            have ms7 := ms7.below bn19
            clear of19 ff19 rn bn19
            generalize (X19.alloc (.cells Z 40)).setRow X19.heap.size RG = Y19 at l_k19 l_k12 l_k13 l_k14 l_k15 l_k17 l_k18 ms7 ⊢
            generalize X19.heap.size = k19 at l_k19 ⊢
            clear hcx ms6 f2
            have g1 : Y19.cell? ⟨k19, 0, none⟩ = some (.int .i64 9) := row_at l_k19.1 0 _ HRG.out.2.2.1
            have haw := HAW.out Y19
            have bz := built40_none
            have hez : ∀ w, (Op.equalIn 10000 40 (.agg Rep.zero.arr) (.agg Rep.zero.arr)).run Try.prog w = .ok true w := fun w => by rw [equal40 _ _ (zs_length _) (zs_length _)]; simp
            have hevv : ∀ w, (Op.equalIn 10000 44 (.agg V.arr) (.agg V.arr)).run Try.prog w = .ok true w := fun w => by rw [equal44 _ _ HVK.out.wr.1 HVK.out.wr.1]; simp
            rw [HDRE.out] at bz hez
            rw [HDVW.out] at hevv
            have r17 := l_k17.1
            have r18 := l_k18.1
            have r13 := l_k13.1
            have t0 : Hid (1 = 1) := rfl
            have t1 : Hid (1 = 1) := rfl
            have t2 : Hid (1 = 1) := rfl
            have t3 : Hid (1 = 1) := rfl
            go_wp2_with (first
              | (have hh := t0; clear hh t0; refine load_cells rfl 40 (.tmp 17) rfl k17 rfl 40 RE r17 67 Try.underlying40 rfl size40 HRE.out.1 ?_)
              | (have hh := t1; clear hh t1; refine build_cells rfl 40 #[] rfl _ rfl RE bz ?_)
              | (have hh := t2; clear hh t2; refine load_cells_g (by rfl) 44 (.tmp 18) rfl k18 rfl 44 VW r18 65 Try.underlying44 rfl size44 HVW.out.1 ?_)
              | (have hh := t3; clear hh t3; refine load_cells_g (by rfl) 44 (.tmp 13) rfl k13 rfl 44 VW r13 65 Try.underlying44 rfl size44 HVW.out.1 ?_)
              | (go_at_call 10; refine Calls.mono haw ?_; clear haw; rintro e W9 ⟨he, hb9⟩; obtain rfl := he))
            rw [HPP.out]
            exact ⟨rfl, ms7.bel.trans (hb9.mono ms7.bel.size)⟩
        · rw [(begun_none HA.out.cl hl8).1, (begun_none HA.out.cl hl8).2] at hcx
          obtain ⟨RX, HDRX⟩ : ∃ R, Hid ((Rep.fail 10).arr = R) := ⟨_, rfl⟩
          have HRX : Hid (RX.size = 67 ∧ RX.all (·.oneCell') = true ∧ RX[0]? = some (.int .i64 (Rep.fail 10).err) ∧ RX[1]? = some (.int .u64 (Rep.fail 10).txn) ∧ RX[2]? = some (.int .u32 (Rep.fail 10).ts)) := by rw [← HDRX.out]; exact ⟨Rep.arr_size (zs_length _), Rep.one _, rfl, rfl, rfl⟩
          rw [HDRX.out] at hcx
          have hd := hcx
          have ts : Hid (1 = 1) := rfl
          go_upto_region 12 with (first
            | (go_at_call 12; refine Calls.mono hd ?_; clear hd; rintro e X12 ⟨he, hst⟩; obtain rfl := he; have rn : Row (X12.alloc (.cells Z 40)) X12.heap.size Z 40 := Row.new _ _ _)
            | (have hh := ts; clear hh ts; refine store_cells rfl 40 (.tmp 12) (.tmp 51) rfl X12.heap.size RX rfl rfl 40 _ rn 67 size40 HZS.out HRX.out.1 HRX.out.2.1 ?_))
          obtain ⟨F12, ms1, of12, ff12⟩ := hst
          have bn12 : Below X12.heap.size X12 ((X12.alloc (.cells Z 40)).setRow X12.heap.size RX) := below_setRow ((Below.refl _ _).alloc (Nat.le_refl _) _) (Nat.le_refl _) _
          have l_k12 : Loc F12 ((X12.alloc (.cells Z 40)).setRow X12.heap.size RX) X12.heap.size RX 40 := ⟨rn.set _, ms1.fresh⟩
          have ms1 := ms1.below bn12
          clear of12 ff12 rn bn12
          generalize (X12.alloc (.cells Z 40)).setRow X12.heap.size RX = Y12 at l_k12  ms1 ⊢
          generalize X12.heap.size = k12 at l_k12 ⊢
          clear hcx ms
          have hc14 := ms1.last
          rw [HST.out] at hc14
          have hc16 := ms1.at_page pg st hpg0 (by omega) hst0.1
          rw [HA.out.len, if_pos (by exact hpg8), HV.out, HDVW.out] at hc16
          have hla := hc14
          have hat := hc16
          have rn : Hid (1 = 1) := rfl
          have ts : Hid (1 = 1) := rfl
          go_upto_region 13 with (first
            | (go_at_call 14; refine Calls.mono hla ?_; clear hla; rintro e W9 ⟨he, hww⟩; rw [hww]; clear hww W9; obtain rfl := he)
            | (go_at_call 16; refine Calls.mono hat ?_; clear hat; rintro e X13 ⟨he, ms2, hb13⟩; obtain rfl := he; have rn : Row (X13.alloc (.cells Z4 44)) X13.heap.size Z4 44 := Row.new _ _ _)
            | (have hh := ts; clear hh ts; refine store_cells rfl 44 (.tmp 13) (.tmp 56) rfl X13.heap.size VW rfl rfl 44 _ rn 65 size44 HZ4.out HVW.out.1 HVW.out.2.1 ?_))
          have bn13 : Below X13.heap.size X13 ((X13.alloc (.cells Z4 44)).setRow X13.heap.size VW) := below_setRow ((Below.refl _ _).alloc (Nat.le_refl _) _) (Nat.le_refl _) _
          have l_k13 : Loc F12 ((X13.alloc (.cells Z4 44)).setRow X13.heap.size VW) X13.heap.size VW 44 := ⟨rn.set _, ms2.fresh⟩
          have l_k12 := (l_k12.below hb13).below bn13
          have ms2 := ms2.below bn13
          clear rn bn13 hb13
          generalize (X13.alloc (.cells Z4 44)).setRow X13.heap.size VW = Y13 at l_k13 l_k12 ms2 ⊢
          generalize X13.heap.size = k13 at l_k13 ⊢
          have f2 : Y13.cell? ⟨k12, 1, none⟩ = some (.int .u64 0) := row_at l_k12.1 1 _ HRX.out.2.2.2.1
          have hcx : Calls Try.prog 12 #[.pointer (some ⟨g, 0, none⟩), .agg #[.int .u8 2, .int .u64 0, .int .u16 pg, .int .i64 0, .string str]] Y13 fun r w' => r = .returned (.agg (doR s (cW 0 pg str)).arr) ∧ Step w F12 g (doS s (cW 0 pg str)) Y13 w' := ms2.call (cW 0 pg str) (cW_ok str (by omega) (by omega)) (by have := HA.out.begun; have := hn40_oa; omega)
          rw [(none_write HOK.out HA.out.cl hp0 (t := str) (by omega)).1, (none_write HOK.out HA.out.cl hp0 (t := str) (by omega)).2] at hcx
          obtain ⟨RW, HDRW⟩ : ∃ R, Hid ((Rep.fail 9).arr = R) := ⟨_, rfl⟩
          have HRW : Hid (RW.size = 67 ∧ RW.all (·.oneCell') = true ∧ RW[0]? = some (.int .i64 (Rep.fail 9).err) ∧ RW[1]? = some (.int .u64 (Rep.fail 9).txn) ∧ RW[2]? = some (.int .u32 (Rep.fail 9).ts)) := by rw [← HDRW.out]; exact ⟨Rep.arr_size (zs_length _), Rep.one _, rfl, rfl, rfl⟩
          rw [HDRW.out] at hcx
          have hd := hcx
          have ts : Hid (1 = 1) := rfl
          go_upto_region 14 with (first
            | (go_at_call 12; refine Calls.mono hd ?_; clear hd; rintro e X14 ⟨he, hst⟩; obtain rfl := he; have rn : Row (X14.alloc (.cells Z 40)) X14.heap.size Z 40 := Row.new _ _ _)
            | (have hh := ts; clear hh ts; refine store_cells rfl 40 (.tmp 14) (.tmp 63) rfl X14.heap.size RW rfl rfl 40 _ rn 67 size40 HZS.out HRW.out.1 HRW.out.2.1 ?_))
          obtain ⟨F14, ms3, of14, ff14⟩ := hst
          have bn14 : Below X14.heap.size X14 ((X14.alloc (.cells Z 40)).setRow X14.heap.size RW) := below_setRow ((Below.refl _ _).alloc (Nat.le_refl _) _) (Nat.le_refl _) _
          have l_k14 : Loc F14 ((X14.alloc (.cells Z 40)).setRow X14.heap.size RW) X14.heap.size RW 40 := ⟨rn.set _, ms3.fresh⟩
          have l_k12 := (l_k12.step of14 ff14).below bn14
          have l_k13 := (l_k13.step of14 ff14).below bn14
          have ms3 := ms3.below bn14
          clear of14 ff14 rn bn14
          generalize (X14.alloc (.cells Z 40)).setRow X14.heap.size RW = Y14 at l_k14 l_k12 l_k13 ms3 ⊢
          generalize X14.heap.size = k14 at l_k14 ⊢
          clear hcx ms2 f2
          refine wp_region_held_drew (S := fun w' => MS w F14 g s w' ∧ Loc F14 w' k12 RX 40 ∧ Loc F14 w' k13 VW 44 ∧ Loc F14 w' k14 RW 40) (by kernel_rfl) ⟨ms3.below (below_drew _), l_k12.below (below_drew _), l_k13.below (below_drew _), l_k14.below (below_drew _)⟩ fun hS => ?_
          clear ms3 l_k12 l_k13 l_k14
          refine wpAnyH_take (i := 0) (v := .pointer (some ⟨k12, 0, none⟩)) rfl (by kernel_rfl) (by kernel_rfl) (by kernel_rfl) (fun _ _ _ h => h) (Or.inl ⟨by rfl, fun w _ => by go_simp⟩) hS ?_
          try simp only [Act.put, List.getElem_toArray, List.getElem_cons_zero, List.getElem_cons_succ, List.setIfInBounds_toArray, List.set_cons_zero, List.set_cons_succ]
          refine wpAnyH_take (i := 1) (v := .int .i64 10) rfl (by kernel_rfl) (by kernel_rfl) (by kernel_rfl) (fun _ _ _ h => h) (Or.inl ⟨by rfl, fun w h => by have c : w.cell? ⟨k12, 0, none⟩ = some (.int .i64 10) := row_at h.2.1.1 0 _ HRX.out.2.2.1; go_simp⟩) hS ?_
          try simp only [Act.put, List.getElem_toArray, List.getElem_cons_zero, List.getElem_cons_succ, List.setIfInBounds_toArray, List.set_cons_zero, List.set_cons_succ]
          refine wpAnyH_take (i := 2) (v := .bool true) rfl (by kernel_rfl) (by kernel_rfl) (by kernel_rfl) (fun _ _ _ h => h) (Or.inl ⟨by rfl, fun w _ => by go_simp⟩) hS ?_
          try simp only [Act.put, List.getElem_toArray, List.getElem_cons_zero, List.getElem_cons_succ, List.setIfInBounds_toArray, List.set_cons_zero, List.set_cons_succ]
          refine wpAnyH_take (i := 3) (v := .bool true) rfl (by kernel_rfl) (by kernel_rfl) (by kernel_rfl) (fun _ _ _ h => h) (Or.inl ⟨by rfl, fun w _ => by rfl⟩) hS ?_
          try simp only [Act.put, List.getElem_toArray, List.getElem_cons_zero, List.getElem_cons_succ, List.setIfInBounds_toArray, List.set_cons_zero, List.set_cons_succ]
          refine wpAnyH_take (i := 4) (v := undef) rfl (by kernel_rfl) (by kernel_rfl) (by kernel_rfl) (fun _ _ _ h => h) (Or.inr ⟨by rfl, rfl⟩) hS ?_
          try simp only [Act.put, List.getElem_toArray, List.getElem_cons_zero, List.getElem_cons_succ, List.setIfInBounds_toArray, List.set_cons_zero, List.set_cons_succ]
          refine wpAnyH_take (i := 5) (v := undef) rfl (by kernel_rfl) (by kernel_rfl) (by kernel_rfl) (fun _ _ _ h => h) (Or.inr ⟨by rfl, rfl⟩) hS ?_
          try simp only [Act.put, List.getElem_toArray, List.getElem_cons_zero, List.getElem_cons_succ, List.setIfInBounds_toArray, List.set_cons_zero, List.set_cons_succ]
          refine wpAnyH_take (i := 6) (v := undef) rfl (by kernel_rfl) (by kernel_rfl) (by kernel_rfl) (fun _ _ _ h => h) (Or.inr ⟨by rfl, rfl⟩) hS ?_
          try simp only [Act.put, List.getElem_toArray, List.getElem_cons_zero, List.getElem_cons_succ, List.setIfInBounds_toArray, List.set_cons_zero, List.set_cons_succ]
          refine wpAnyH_take (i := 7) (v := undef) rfl (by kernel_rfl) (by kernel_rfl) (by kernel_rfl) (fun _ _ _ h => h) (Or.inr ⟨by rfl, rfl⟩) hS ?_
          try simp only [Act.put, List.getElem_toArray, List.getElem_cons_zero, List.getElem_cons_succ, List.setIfInBounds_toArray, List.set_cons_zero, List.set_cons_succ]
          refine wpAnyH_take (i := 8) (v := undef) rfl (by kernel_rfl) (by kernel_rfl) (by kernel_rfl) (fun _ _ _ h => h) (Or.inr ⟨by rfl, rfl⟩) hS ?_
          try simp only [Act.put, List.getElem_toArray, List.getElem_cons_zero, List.getElem_cons_succ, List.setIfInBounds_toArray, List.set_cons_zero, List.set_cons_succ]
          refine wpAnyH_take (i := 9) (v := undef) rfl (by kernel_rfl) (by kernel_rfl) (by kernel_rfl) (fun _ _ _ h => h) (Or.inr ⟨by rfl, rfl⟩) hS ?_
          try simp only [Act.put, List.getElem_toArray, List.getElem_cons_zero, List.getElem_cons_succ, List.setIfInBounds_toArray, List.set_cons_zero, List.set_cons_succ]
          refine wpAnyH_take (i := 10) (v := undef) rfl (by kernel_rfl) (by kernel_rfl) (by kernel_rfl) (fun _ _ _ h => h) (Or.inr ⟨by rfl, rfl⟩) hS ?_
          try simp only [Act.put, List.getElem_toArray, List.getElem_cons_zero, List.getElem_cons_succ, List.setIfInBounds_toArray, List.set_cons_zero, List.set_cons_succ]
          refine wpAnyH_take (i := 11) (v := .bool true) rfl (by kernel_rfl) (by kernel_rfl) (by kernel_rfl) (fun _ _ _ h => h) (Or.inl ⟨by rfl, fun w _ => by go_simp⟩) hS ?_
          try simp only [Act.put, List.getElem_toArray, List.getElem_cons_zero, List.getElem_cons_succ, List.setIfInBounds_toArray, List.set_cons_zero, List.set_cons_succ]
          refine wpAnyH_done (by kernel_rfl) ?_ _
          obtain ⟨ms3, l_k12, l_k13, l_k14⟩ := hS
          generalize Y14.drew = Y15 at ms3 l_k12 l_k13 l_k14 ⊢
          have f0 : Y15.cell? ⟨k12, 0, none⟩ = some (.int .i64 10) := row_at l_k12.1 0 _ HRX.out.2.2.1
          have f1 : Y15.cell? ⟨k14, 0, none⟩ = some (.int .i64 9) := row_at l_k14.1 0 _ HRW.out.2.2.1
          have haw := HAW.out Y15
          go_wp2_with (go_at_call 10; refine Calls.mono haw ?_; clear haw; rintro e W9 ⟨he, hb9⟩; obtain rfl := he)
          rw [HPP.out]
          exact ⟨rfl, ms3.bel.trans (hb9.mono ms3.bel.size)⟩

set_option maxRecDepth 100000 in
theorem lifted (os : Os) (started : os.Started) (H : Type) (enc : TypeId × Value → H) :
    ReturnsInHanded {} Try.checked os 6 .any (Rows.modelApartSpec.pre6 enc Try.prog Try.f6 Rows.modelApartRow.domain false) (Rows.modelApartSpec.post enc Try.prog Try.f6 false true false false) := by
  refine returnsInHanded_of_change_sized (C := Try.checked) own started (by kernel_rfl) Try.func6
    (ChangeSpec.witness6 (enc := enc) (C := Try.checked) false ⟨#[], #[.slice none 0 0, .int .u16 0, .string ByteArray.empty, .bool false], []⟩ 8 (by kernel_rfl) (by kernel_rfl) (by kernel_rfl) (by kernel_rfl)) ?_
  intro W base args ds gs before hval0 hW hcnd hsz0 _
  have hval : ∀ (j : Nat) t v, Try.f6.params[j]? = some t → args[j]? = some v → Value.okWide Try.prog W .any base t v := hval0
  have hW' := hW
  obtain ⟨p, q, hA0, hV, rfl, hfz, hnd⟩ := hW
  have hA : DataW.TrodAll enc Try.prog W 0 (fun _ => true) true Try.f6.params.toList args.toList ds p := hA0
  have hsz : (DataW.weightsEach Try.prog (Try.f6.params.toList ++ []) (ds ++ gs)).all (· ≤ reachBytes) = true := hsz0
  rw [Try.params6] at hA hval hsz
  obtain ⟨v0, vs0, d0, ds0, p0, q0, hargs, rfl, rfl, h0, r0⟩ := trodAll_cons hA
  obtain ⟨v1, vs1, d1, ds1, p1, q1, rfl, rfl, rfl, h1, r1⟩ := trodAll_cons r0
  obtain ⟨v2, vs2, d2, ds2, p2, q2, rfl, rfl, rfl, h2, r2⟩ := trodAll_cons r1
  obtain ⟨v3, vs3, d3, ds3, p3, q3, rfl, rfl, rfl, h3, r3⟩ := trodAll_cons r2
  obtain ⟨rfl, rfl, rfl⟩ := trodAll_nil r3
  obtain rfl : args = #[v0, v1, v2, v3] := by cases args; simp_all
  obtain ⟨rfl, rfl⟩ := trodVars_none hV
  simp only [List.append_nil] at hsz
  have hlt : ∀ x ∈ (p0 ++ (p1 ++ (p2 ++ (p3 ++ [])))), x.block < W.heap.size := fun x hx => hW'.lt x (by simpa using hx)
  have hw0 : (d0.weights Try.prog 23).all (· ≤ reachBytes) = true := List.all_eq_true.2 fun m hm => List.all_eq_true.1 hsz m (by simp [DataW.weightsEach, hm])
  have hw1 : (d1.weights Try.prog 33).all (· ≤ reachBytes) = true := List.all_eq_true.2 fun m hm => List.all_eq_true.1 hsz m (by simp [DataW.weightsEach, hm])
  have hw2 : (d2.weights Try.prog 9).all (· ≤ reachBytes) = true := List.all_eq_true.2 fun m hm => List.all_eq_true.1 hsz m (by simp [DataW.weightsEach, hm])
  have hw3 : (d3.weights Try.prog 4).all (· ≤ reachBytes) = true := List.all_eq_true.2 fun m hm => List.all_eq_true.1 hsz m (by simp [DataW.weightsEach, hm])
  have k0 := h0
  have k1 := h1
  have k2 := h2
  have k3 := h3
  obtain ⟨a0, w0⟩ := open_mcals (hval 0 23 v0 rfl rfl) h0 hw0
  obtain ⟨a1, rfl, rfl, rfl, w1⟩ := open_int Try.underlying33 (hval 1 33 v1 rfl rfl) h1
  obtain ⟨a2, rfl, rfl, rfl, w2⟩ := Go.ChangeMaps.open_string Try.underlying9 (hval 2 9 v2 rfl rfl) h2
  obtain ⟨a3, rfl, rfl, rfl⟩ := open_bool Try.underlying4 (hval 3 4 v3 rfl rfl) h3
  clear hA0 hval0
  simp only [List.append_nil] at hW'
  refine (walk W v0 a0 a1 a2 a3 w0 w1 w2).mono fun e W' ⟨he, hg⟩ => ?_
  subst he
  exact ⟨_, rfl, ⟨_, _, _, [], (p0 ++ ([] ++ ([] ++ ([] ++ [])))), [], hW', (trodAll_cons_mk (shut_bool Try.underlying4 _) trodAll_mk0), (trodAll_cons_mk (Below.trod laidOut (by kernel_rfl) (of_decide_eq_true (by kernel_rfl)) k0 hg (fun x hx => hlt x (by simp [hx]))) (trodAll_cons_mk (Below.trod laidOut (by kernel_rfl) (of_decide_eq_true (by kernel_rfl)) k1 hg (fun x hx => (nomatch hx))) (trodAll_cons_mk (Below.trod laidOut (by kernel_rfl) (of_decide_eq_true (by kernel_rfl)) k2 hg (fun x hx => (nomatch hx))) (trodAll_cons_mk (Below.trod laidOut (by kernel_rfl) (of_decide_eq_true (by kernel_rfl)) k3 hg (fun x hx => (nomatch hx))) trodAll_mk0)))), rfl,
    hg.frame _, fun h => by cases h⟩⟩

theorem over : Rows.modelApartRow.holds Try.pinned (OpenSpec.ofChange Rows.modelApartSpec) :=
  OpenClaim.holds_of_wide 6 Try.f6 rfl rfl rfl rfl rfl rfl rfl ⟨rfl, rfl, rfl, rfl, rfl⟩ rfl rfl rfl rfl rfl (by kernel_rfl) Try.func6 (by kernel_rfl)
    (of_decide_eq_true (by kernel_rfl)) (by unfold Func.isWrapper; first | (rw [if_pos (by decide +kernel)]; kernel_rfl) | (rw [if_neg (by decide +kernel)]; exact ⟨rfl, rfl⟩))
    (fun os started H enc _ => lifted os started H enc)

/-- The statement. -/
theorem proved : Rows.ModelApartSaid :=
  over
#print axioms proved
end Go.Proofs.Ytpncmbkklkfmnaa.modelApart
