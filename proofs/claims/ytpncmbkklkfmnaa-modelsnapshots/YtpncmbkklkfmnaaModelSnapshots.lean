/-
  Proved here: a transaction that writes nothing reads the same, whatever others do in between; without a condition.
-/
import Derived.Test.YtpncmbkklkfmnaaMlw
namespace Go.Proofs.Ytpncmbkklkfmnaa.modelSnapshots
open Go.ChangeShapes Go.WideShapes Go.ChangeAt Go.RowKit
open Go.Deep
set_option linter.unusedVariables false
set_option linter.unusedSimpArgs false

theorem own : ownKnob Try.prog.godebug = none := by kernel_rfl

set_option maxRecDepth 20000

/-- What a reader holds on to. -/
structure Snap (n st k : Int) (V : Ver) (s : St) : Prop where
  has : Has s n st []
  av : atV (s.page k) st = V
  le : st ≤ s.last
  pg : k < s.pages.length
theorem Snap.step {n st k : Int} {V : Ver} {s : St} (h : Snap n st k V s) {c : Cal} (hc : c.txn ≠ n) (hk : c.kind < 7) (h0 : 0 ≤ k) : Snap n st k V (doS s c) := by
  have q := doS_keeps s c (n := n) (k := k) (ts := st) hc hk h0 h.pg
  have h1 := q.lo
  have h2 := h.le
  exact ⟨⟨q.cl.trans h.has.cl, q.fd _ h.has.fd⟩, (q.av h.le).trans h.av, by omega, by rw [q.len]; exact h.pg⟩
set_option maxHeartbeats 8000000 in
theorem walk (w : World) (v : Value) (cs : List Cal) (v2 : Value) (ds : List Cal) (page : Int) (hcs : Cals w v cs) (hds : Cals w v2 ds) (hpg : (Lit.int .u16 page).wf = true) :
    Calls Try.prog 4 #[v, v2, .int .u16 page] w fun e w' => e = .returned (.bool true) ∧ Below w.heap.size w w' := by
  have hp := bound_u16 hpg
  clear hpg
  obtain ⟨oa, cap, rfl, hcap_oa, hlen_oa, hel_oa⟩ := hcs
  have HEL_oa : Hid (∀ i, i < cs.length → ∃ (a : Addr) (c : Cal), oa = some a ∧ cs[i]? = some c ∧ c.Ok ∧ ∀ j u, c.cells[j]? = some u → w.cell? ((a.add (i * 5)).add j) = some u) := hel_oa
  obtain ⟨n1, HN_oa⟩ : ∃ n1, Hid (Nat.min cs.length 40 = n1) := ⟨_, rfl⟩
  have HSM_oa : Hid (∀ W, Calls Try.prog 11 #[.slice oa cs.length cap] W fun r w' => r = .returned (.slice oa n1 cap) ∧ w' = W) := fun W => by
    have := small_any _ oa cs.length cap rfl hcap_oa (by omega) W
    rw [HN_oa.out] at this
    simpa using this
  have hn40_oa : n1 ≤ 40 := by rw [← HN_oa.out]; exact Nat.min_le_right _ _
  have HNL_oa : Hid (n1 ≤ cs.length) := by rw [← HN_oa.out]; exact Nat.min_le_left _ _
  clear hel_oa hlen_oa hcap_oa
  obtain ⟨ob, cap2, rfl, hcap_ob, hlen_ob, hel_ob⟩ := hds
  have HEL_ob : Hid (∀ i, i < ds.length → ∃ (a : Addr) (c : Cal), ob = some a ∧ ds[i]? = some c ∧ c.Ok ∧ ∀ j u, c.cells[j]? = some u → w.cell? ((a.add (i * 5)).add j) = some u) := hel_ob
  obtain ⟨n2, HN_ob⟩ : ∃ n2, Hid (Nat.min ds.length 40 = n2) := ⟨_, rfl⟩
  have HSM_ob : Hid (∀ W, Calls Try.prog 11 #[.slice ob ds.length cap2] W fun r w' => r = .returned (.slice ob n2 cap2) ∧ w' = W) := fun W => by
    have := small_any _ ob ds.length cap2 rfl hcap_ob (by omega) W
    rw [HN_ob.out] at this
    simpa using this
  have hn40_ob : n2 ≤ 40 := by rw [← HN_ob.out]; exact Nat.min_le_right _ _
  have HNL_ob : Hid (n2 ≤ ds.length) := by rw [← HN_ob.out]; exact Nat.min_le_left _ _
  clear hel_ob hlen_ob hcap_ob
  have HNW : Hid (∀ W, Calls Try.prog 9 #[.int .i64 8, .int .u32 1073741824] W fun e w' => NewM W 8 1073741824 e w') := fun W => new_some 8 (by decide) (by decide) 1073741824 (by decide) (by decide) W
  have HAW : Hid (∀ W, Calls Try.prog 10 #[] W fun r w' => r = .returned (.bool true) ∧ Below W.heap.size W w') := fun W => awake_any W
  obtain ⟨PP, HPP⟩ : ∃ PP : Ending → World → Prop, Hid (PP = fun e w' => e = .returned (.bool true) ∧ Below w.heap.size w w') := ⟨_, rfl⟩
  rw [← HPP.out]
  have hz40 := zero40
  have HZS : Hid (Rep.zero.arr.size = 67) := rz
  generalize Rep.zero.arr = Z at hz40 HZS
  have hn := HNW.out w
  have hpg0 : 0 ≤ page % 8 := by omega
  have hpg8 : page % 8 < 8 := by omega
  go_enter Try.func4, Try.ntmps4
  go_upto_region 5 with (first
    | (go_at_call 9; refine Calls.mono hn ?_; clear hn; rintro e W1 hnm; obtain ⟨g, rfl, ms0⟩ := MS.start hnm; clear hnm; have hs := HSM_oa.out W1)
    | (go_at_call 11; refine Calls.mono hs ?_; clear hs; rintro e W2 ⟨he, hww⟩; rw [hww]; clear hww W2; obtain rfl := he))
  generalize (fun k => w.heap.size ≤ k ∧ k < W1.heap.size) = F0 at ms0
  clear HSM_oa
  go_loopw [9, 22] (fun p i wr => ∃ (j : Nat) (s : St) (F : Nat → Prop), i = .int .i64 j ∧ j ≤ n1 ∧ MS w F g s wr ∧ Hid (Ahead 8 1073741824 j s)) (fun _ i _ => n1 - (intOf i).toNat)
  case atStart => exact ⟨0, _, _, rfl, Nat.zero_le _, ms0, Ahead.start 8 1073741824⟩
  case round =>
    clear ms0
    obtain ⟨j, s, F, rfl, hj, ms, HA⟩ := hrel
    by_cases hlt : (j : Int) < n1
    · obtain ⟨a, c, rfl, hcj, hcok, hcell⟩ := HEL_oa.out j (by have := HNL_oa.out; omega)
      have hcell2 : ∀ i u, c.cells[i]? = some u → wr.cell? ((a.add (j * 5)).add i) = some u := fun i u h => cell_keep (hcell i u h) ms.bel
      have hz35 := zero35
      have rn : Row (wr.alloc (.cells #[.int .u8 0, .int .u64 0, .int .u16 0, .int .i64 0, .string ⟨#[]⟩] 35)) wr.heap.size #[.int .u8 0, .int .u64 0, .int .u16 0, .int .i64 0, .string ⟨#[]⟩] 35 := Row.new _ _ _
      obtain ⟨CE, HCE⟩ : ∃ CE, Hid (c.arr = CE) := ⟨_, rfl⟩
      have HAR : Hid (c.cells.toArray = CE) := by rw [← HCE.out]; rfl
      have HCS : Hid (CE.size = 5) := by rw [← HCE.out]; rfl
      have HCO : Hid (CE.all (·.oneCell') = true) := by rw [← HCE.out]; exact c.one
      have HC0 : Hid (CE[0]? = some (.int .u8 c.kind)) := by rw [← HCE.out]; rfl
      have HC1 : Hid (CE[1]? = some (.int .u64 c.txn)) := by rw [← HCE.out]; rfl
      have HOK : Hid c.Ok := hcok
      have b3 : Below wr.heap.size wr ((wr.alloc (.cells #[.int .u8 0, .int .u64 0, .int .u16 0, .int .i64 0, .string ⟨#[]⟩] 35)).setRow wr.heap.size CE) := below_setRow ((Below.refl _ _).alloc (Nat.le_refl _) _) (Nat.le_refl _) _
      have rX : Row ((wr.alloc (.cells #[.int .u8 0, .int .u64 0, .int .u16 0, .int .i64 0, .string ⟨#[]⟩] 35)).setRow wr.heap.size CE) wr.heap.size CE 35 := rn.set _
      have nX := ms.fresh
      have ms3 := ms.below b3
      have hj1 : ((j : Int) + 1) = ((j + 1 : Nat) : Int) := by omega
      have hw1 : IntKind.i64.wrap ((j : Int) + 1) = ((j + 1 : Nat) : Int) := by rw [IntKind.wrap_i64]; omega
      clear hj1 hcell hcj hcok ms
      have tl : Hid (1 = 1) := rfl
      have ts : Hid (1 = 1) := rfl
      go_upto_region 7 with (first
        | (have hh := tl; clear hh tl; refine wpList_load_any rfl 35 (.tmp 24) rfl _ rfl c.cells _ hcell2 Try.underlying35 rfl (by rw [size35]; rfl) ?_; rw [HAR.out])
        | (have hh := ts; clear hh ts; refine store_cells rfl 35 (.tmp 9) (.tmp 25) rfl wr.heap.size CE rfl rfl 35 _ rn 5 size35 rfl HCS.out HCO.out ?_))
      clear rn hcell2 b3 hz35
      generalize (wr.alloc (.cells #[.int .u8 0, .int .u64 0, .int .u16 0, .int .i64 0, .string ⟨#[]⟩] 35)).setRow wr.heap.size CE = W3 at rX ms3  ⊢
      generalize wr.heap.size = X at rX nX ⊢
      have e0 := row_at rX 0 _ HC0.out
      have e1 := row_at rX 1 _ HC1.out
      by_cases hk : c.kind < 7
      · have hd := ms3.call c HOK.out (by have := HA.out.begun; have := hn40_oa; omega)
        rw [HCE.out] at hd
        have tl : Hid (1 = 1) := rfl
        have HK : Hid (c.kind < 7) := hk
        go_wp2_with (first
          | (have hh := tl; clear hh tl; refine load_cells rfl 35 (.tmp 9) rfl X rfl 35 CE rX 5 Try.underlying35 rfl size35 HCS.out ?_)
          | (go_at_call 12; refine Calls.mono hd ?_; clear hd; rintro e W4 ⟨he, hst⟩; obtain rfl := he))
        obtain ⟨F4, ms4, of4, ff4⟩ := hst
        go_roundw
        case rel => exact ⟨j + 1, _, F4, by first | rfl | simp, by omega, ms4, HA.out.step c HK.out⟩
        case measure => simp only [intOf]; omega
      · go_wp2
        go_roundw
        case rel => exact ⟨j + 1, _, F, by first | rfl | simp, by omega, ms3, HA.out.mono (by omega)⟩
        case measure => simp only [intOf]; omega
    · go_upto_region 11 with fail
      generalize page % 8 = pg at hpg0 hpg8 ⊢
      have HOK : Hid s.Ok := ms.at_.ok
      have hcB : Calls Try.prog 12 #[.pointer (some ⟨g, 0, none⟩), .agg #[.int .u8 0, .int .u64 0, .int .u16 0, .int .i64 0, .string ⟨#[]⟩]] wr fun r w' => r = .returned (.agg (doR s cB).arr) ∧ Step w F g (doS s cB) wr w' := ms.call cB aw_ok.1 (by have := HA.out.begun; have := hn40_oa; omega)
      by_cases hl8 : s.live.length < 8
      · obtain ⟨hb1, hb2, hb3, hb4, hb5, hb6, hb7⟩ := begun_has HOK.out HA.out.cl hl8
        rw [hb1] at hcB
        have HHas : Hid (Has (doS s cB) (s.begun + 1) s.last []) := hb2
        have HPG2 : Hid ((doS s cB).pages = s.pages) := hb4
        have HLS : Hid ((doS s cB).last = s.last) := hb5
        have HA2 : Hid (Ahead 8 1073741824 (n1 + 1) (doS s cB)) := (HA.out.step cB (by decide)).mono (by omega)
        obtain ⟨nn, HNN⟩ : ∃ nn, Hid (s.begun + 1 = nn) := ⟨_, rfl⟩
        obtain ⟨st, HST⟩ : ∃ st, Hid (s.last = st) := ⟨_, rfl⟩
        obtain ⟨s1, HS1⟩ : ∃ s1, Hid (doS s cB = s1) := ⟨_, rfl⟩
        have hnn : 0 ≤ nn ∧ nn ≤ 1000 := by rw [← HNN.out]; have := HA.out.begun; have := HOK.out.pos; have := hn40_oa; omega
        rw [HNN.out, HST.out] at hcB HHas
        rw [HS1.out] at hcB HHas HPG2 HLS HA2
        have hst0 : 0 ≤ st := by rw [← HST.out]; exact HOK.out.lo
        obtain ⟨RB, HDRB⟩ : ∃ R, Hid ((Rep.mk 0 nn st (zs 64)).arr = R) := ⟨_, rfl⟩
        have HRB : Hid (RB.size = 67 ∧ RB.all (·.oneCell') = true ∧ RB[0]? = some (.int .i64 (Rep.mk 0 nn st (zs 64)).err) ∧ RB[1]? = some (.int .u64 (Rep.mk 0 nn st (zs 64)).txn) ∧ RB[2]? = some (.int .u32 (Rep.mk 0 nn st (zs 64)).ts)) := by rw [← HDRB.out]; exact ⟨Rep.arr_size (zs_length _), Rep.one _, rfl, rfl, rfl⟩
        rw [HDRB.out] at hcB
        clear hb1 hb2 hb3 hb4 hb5 hb6 hb7
        have hd := hcB
        have ts : Hid (1 = 1) := rfl
        go_upto_region 12 with (first
          | (go_at_call 12; refine Calls.mono hd ?_; clear hd; rintro e X10 ⟨he, hst⟩; obtain rfl := he; have rn : Row (X10.alloc (.cells Z 40)) X10.heap.size Z 40 := Row.new _ _ _)
          | (have hh := ts; clear hh ts; refine store_cells rfl 40 (.tmp 10) (.tmp 37) rfl X10.heap.size RB rfl rfl 40 _ rn 67 size40 HZS.out HRB.out.1 HRB.out.2.1 ?_))
        obtain ⟨F10, ms1, of10, ff10⟩ := hst
        have bn10 : Below X10.heap.size X10 ((X10.alloc (.cells Z 40)).setRow X10.heap.size RB) := below_setRow ((Below.refl _ _).alloc (Nat.le_refl _) _) (Nat.le_refl _) _
        have l_k10 : Loc F10 ((X10.alloc (.cells Z 40)).setRow X10.heap.size RB) X10.heap.size RB 40 := ⟨rn.set _, ms1.fresh⟩
        have ms1 := ms1.below bn10
        clear of10 ff10 rn bn10
        generalize (X10.alloc (.cells Z 40)).setRow X10.heap.size RB = Y10 at l_k10  ms1 ⊢
        generalize X10.heap.size = k10 at l_k10 ⊢
        clear hcB ms
        have f0 : Y10.cell? ⟨k10, 0, none⟩ = some (.int .i64 0) := row_at l_k10.1 0 _ HRB.out.2.2.1
        have f1 : Y10.cell? ⟨k10, 1, none⟩ = some (.int .u64 nn) := row_at l_k10.1 1 _ HRB.out.2.2.2.1
        have hl8' : pg < s1.pages.length := by rw [HA2.out.len]; exact hpg8
        obtain ⟨hr1, hr2⟩ := has_read HHas.out hl8'
        have hcR : Calls Try.prog 12 #[.pointer (some ⟨g, 0, none⟩), .agg #[.int .u8 1, .int .u64 nn, .int .u16 pg, .int .i64 0, .string ⟨#[]⟩]] Y10 fun r w' => r = .returned (.agg (doR s1 (cR nn pg)).arr) ∧ Step w F10 g (doS s1 (cR nn pg)) Y10 w' := ms1.call (cR nn pg) (cR_ok (by omega) (by omega)) (by have := HA2.out.begun; have := hn40_oa; omega)
        rw [hr1, hr2, seen_none] at hcR
        have HSN : Hid (Snap nn st pg (atV (s1.page pg) st) s1) := ⟨HHas.out, rfl, by rw [HLS.out, HST.out]; exact Int.le_refl _, hl8'⟩
        obtain ⟨V, HV⟩ : ∃ V, Hid (atV (s1.page pg) st = V) := ⟨_, rfl⟩
        have HVK : Hid (V.Ok ∧ V.ts ≤ st) := by
          rw [← HV.out]
          have q := ms1.at_.ok.page hpg0 hl8'
          exact ⟨atV_ok q hst0, (atV_mem q hst0).2⟩
        rw [HV.out] at hcR HSN
        obtain ⟨RW, HDRW⟩ : ∃ R, Hid ((Rep.mk 0 0 V.ts V.body).arr = R) := ⟨_, rfl⟩
        have HRW : Hid (RW.size = 67 ∧ RW.all (·.oneCell') = true ∧ RW[0]? = some (.int .i64 (Rep.mk 0 0 V.ts V.body).err) ∧ RW[1]? = some (.int .u64 (Rep.mk 0 0 V.ts V.body).txn) ∧ RW[2]? = some (.int .u32 (Rep.mk 0 0 V.ts V.body).ts)) := by rw [← HDRW.out]; exact ⟨Rep.arr_size HVK.out.1.wr.1, Rep.one _, rfl, rfl, rfl⟩
        rw [HDRW.out] at hcR
        clear hr1 hr2
        have hd := hcR
        have ts : Hid (1 = 1) := rfl
        go_upto_region 15 with (first
          | (go_at_call 12; refine Calls.mono hd ?_; clear hd; rintro e X11 ⟨he, hst⟩; obtain rfl := he; have rn : Row (X11.alloc (.cells Z 40)) X11.heap.size Z 40 := Row.new _ _ _)
          | (have hh := ts; clear hh ts; refine store_cells rfl 40 (.tmp 11) (.tmp 52) rfl X11.heap.size RW rfl rfl 40 _ rn 67 size40 HZS.out HRW.out.1 HRW.out.2.1 ?_))
        obtain ⟨F11, ms2, of11, ff11⟩ := hst
        have bn11 : Below X11.heap.size X11 ((X11.alloc (.cells Z 40)).setRow X11.heap.size RW) := below_setRow ((Below.refl _ _).alloc (Nat.le_refl _) _) (Nat.le_refl _) _
        have l_k11 : Loc F11 ((X11.alloc (.cells Z 40)).setRow X11.heap.size RW) X11.heap.size RW 40 := ⟨rn.set _, ms2.fresh⟩
        have l_k10 := (l_k10.step of11 ff11).below bn11
        have ms2 := ms2.below bn11
        clear of11 ff11 rn bn11
        generalize (X11.alloc (.cells Z 40)).setRow X11.heap.size RW = Y11 at l_k11 l_k10 ms2 ⊢
        generalize X11.heap.size = k11 at l_k11 ⊢
        clear hcR ms1 f0 f1
        have hs := HSM_ob.out Y11
        go_upto_region 16 with (go_at_call 11; refine Calls.mono hs ?_; clear hs; rintro e W2 ⟨he, hww⟩; rw [hww]; clear hww W2; obtain rfl := he)
        rename World => wo
        go_loopw [13, 56] (fun p i wr => ∃ (j : Nat) (s : St) (F : Nat → Prop), i = .int .i64 j ∧ j ≤ n2 ∧ MS w F g s wr ∧ Loc F wr k10 RB 40 ∧ Loc F wr k11 RW 40 ∧ Hid (Snap nn st pg V s ∧ Ahead 8 1073741824 (n1 + 1 + j) s)) (fun _ i _ => n2 - (intOf i).toNat)
        case atStart => exact ⟨0, _, _, rfl, Nat.zero_le _, ms2, l_k10, l_k11, HSN.out, HA2.out⟩
        case round =>
          clear ms2 l_k10 l_k11 HSN HA2 HA
          obtain ⟨j, s, F, rfl, hj, ms, l_k10, l_k11, HA⟩ := hrel
          by_cases hlt : (j : Int) < n2
          · obtain ⟨a, c, rfl, hcj, hcok, hcell⟩ := HEL_ob.out j (by have := HNL_ob.out; omega)
            have hcell2 : ∀ i u, c.cells[i]? = some u → wr.cell? ((a.add (j * 5)).add i) = some u := fun i u h => cell_keep (hcell i u h) ms.bel
            have hz35 := zero35
            have rn : Row (wr.alloc (.cells #[.int .u8 0, .int .u64 0, .int .u16 0, .int .i64 0, .string ⟨#[]⟩] 35)) wr.heap.size #[.int .u8 0, .int .u64 0, .int .u16 0, .int .i64 0, .string ⟨#[]⟩] 35 := Row.new _ _ _
            obtain ⟨CE, HCE⟩ : ∃ CE, Hid (c.arr = CE) := ⟨_, rfl⟩
            have HAR : Hid (c.cells.toArray = CE) := by rw [← HCE.out]; rfl
            have HCS : Hid (CE.size = 5) := by rw [← HCE.out]; rfl
            have HCO : Hid (CE.all (·.oneCell') = true) := by rw [← HCE.out]; exact c.one
            have HC0 : Hid (CE[0]? = some (.int .u8 c.kind)) := by rw [← HCE.out]; rfl
            have HC1 : Hid (CE[1]? = some (.int .u64 c.txn)) := by rw [← HCE.out]; rfl
            have HOK : Hid c.Ok := hcok
            have b3 : Below wr.heap.size wr ((wr.alloc (.cells #[.int .u8 0, .int .u64 0, .int .u16 0, .int .i64 0, .string ⟨#[]⟩] 35)).setRow wr.heap.size CE) := below_setRow ((Below.refl _ _).alloc (Nat.le_refl _) _) (Nat.le_refl _) _
            have rX : Row ((wr.alloc (.cells #[.int .u8 0, .int .u64 0, .int .u16 0, .int .i64 0, .string ⟨#[]⟩] 35)).setRow wr.heap.size CE) wr.heap.size CE 35 := rn.set _
            have nX := ms.fresh
            have ms3 := ms.below b3
            have l_k10 := l_k10.below b3
            have l_k11 := l_k11.below b3
            have hj1 : ((j : Int) + 1) = ((j + 1 : Nat) : Int) := by omega
            have hw1 : IntKind.i64.wrap ((j : Int) + 1) = ((j + 1 : Nat) : Int) := by rw [IntKind.wrap_i64]; omega
            clear hj1 hcell hcj hcok ms
            have tl : Hid (1 = 1) := rfl
            have ts : Hid (1 = 1) := rfl
            go_upto_region 18 with (first
              | (have hh := tl; clear hh tl; refine wpList_load_any rfl 35 (.tmp 58) rfl _ rfl c.cells _ hcell2 Try.underlying35 rfl (by rw [size35]; rfl) ?_; rw [HAR.out])
              | (have hh := ts; clear hh ts; refine store_cells rfl 35 (.tmp 13) (.tmp 59) rfl wr.heap.size CE rfl rfl 35 _ rn 5 size35 rfl HCS.out HCO.out ?_))
            clear rn hcell2 b3 hz35
            generalize (wr.alloc (.cells #[.int .u8 0, .int .u64 0, .int .u16 0, .int .i64 0, .string ⟨#[]⟩] 35)).setRow wr.heap.size CE = W3 at rX ms3 l_k10 l_k11 ⊢
            generalize wr.heap.size = X at rX nX ⊢
            have e0 := row_at rX 0 _ HC0.out
            have e1 := row_at rX 1 _ HC1.out
            have f1 : W3.cell? ⟨k10, 1, none⟩ = some (.int .u64 nn) := row_at l_k10.1 1 _ HRB.out.2.2.2.1
            by_cases hk : c.kind < 7 ∧ c.txn ≠ nn
            · have hd := ms3.call c HOK.out (by have := HA.out.2.begun; have := hn40_oa; have := hn40_ob; omega)
              rw [HCE.out] at hd
              have tl : Hid (1 = 1) := rfl
              have HK : Hid (c.kind < 7 ∧ c.txn ≠ nn) := hk
              have h7 := hk.1
              have hne : (c.txn != nn) = true := by simpa using hk.2
              clear hk
              go_wp2_with (first
                | (have hh := tl; clear hh tl; refine load_cells rfl 35 (.tmp 13) rfl X rfl 35 CE rX 5 Try.underlying35 rfl size35 HCS.out ?_)
                | (go_at_call 12; refine Calls.mono hd ?_; clear hd; rintro e W4 ⟨he, hst⟩; obtain rfl := he))
              obtain ⟨F4, ms4, of4, ff4⟩ := hst
              have l_k10 := l_k10.step of4 ff4
              have l_k11 := l_k11.step of4 ff4
              go_roundw
              case rel => exact ⟨j + 1, _, F4, by first | rfl | simp, by omega, ms4, l_k10, l_k11, ⟨HA.out.1.step HK.out.2 HK.out.1 hpg0 , HA.out.2.step c HK.out.1⟩⟩
              case measure => simp only [intOf]; omega
            · by_cases h7 : c.kind < 7
              · have hne : (c.txn != nn) = false := by
                  have : c.txn = nn := Classical.byContradiction fun q => hk ⟨h7, q⟩
                  simpa using this
                clear hk
                go_wp2
                go_roundw
                case rel => exact ⟨j + 1, _, F, by first | rfl | simp, by omega, ms3, l_k10, l_k11, ⟨HA.out.1, HA.out.2.mono (by omega)⟩⟩
                case measure => simp only [intOf]; omega
              · clear hk
                go_wp2
                go_roundw
                case rel => exact ⟨j + 1, _, F, by first | rfl | simp, by omega, ms3, l_k10, l_k11, ⟨HA.out.1, HA.out.2.mono (by omega)⟩⟩
                case measure => simp only [intOf]; omega
          · go_upto_region 21 with fail
            have HOK2 : Hid s.Ok := ms.at_.ok
            have f1 : wr.cell? ⟨k10, 1, none⟩ = some (.int .u64 nn) := row_at l_k10.1 1 _ HRB.out.2.2.2.1
            obtain ⟨hr1, hr2⟩ := has_read HA.out.1.has HA.out.1.pg
            have hcR : Calls Try.prog 12 #[.pointer (some ⟨g, 0, none⟩), .agg #[.int .u8 1, .int .u64 nn, .int .u16 pg, .int .i64 0, .string ⟨#[]⟩]] wr fun r w' => r = .returned (.agg (doR s (cR nn pg)).arr) ∧ Step w F g (doS s (cR nn pg)) wr w' := ms.call (cR nn pg) (cR_ok (by omega) (by omega)) (by have := HA.out.2.begun; have := hn40_oa; have := hn40_ob; omega)
            rw [hr1, hr2, seen_none, HA.out.1.av, HDRW.out] at hcR
            clear hr1 hr2
            have hd := hcR
            have ts : Hid (1 = 1) := rfl
            go_upto_region 22 with (first
              | (go_at_call 12; refine Calls.mono hd ?_; clear hd; rintro e X14 ⟨he, hst⟩; obtain rfl := he; have rn : Row (X14.alloc (.cells Z 40)) X14.heap.size Z 40 := Row.new _ _ _)
              | (have hh := ts; clear hh ts; refine store_cells rfl 40 (.tmp 14) (.tmp 79) rfl X14.heap.size RW rfl rfl 40 _ rn 67 size40 HZS.out HRW.out.1 HRW.out.2.1 ?_))
            obtain ⟨F14, ms5, of14, ff14⟩ := hst
            have bn14 : Below X14.heap.size X14 ((X14.alloc (.cells Z 40)).setRow X14.heap.size RW) := below_setRow ((Below.refl _ _).alloc (Nat.le_refl _) _) (Nat.le_refl _) _
            have l_k14 : Loc F14 ((X14.alloc (.cells Z 40)).setRow X14.heap.size RW) X14.heap.size RW 40 := ⟨rn.set _, ms5.fresh⟩
            have l_k10 := (l_k10.step of14 ff14).below bn14
            have l_k11 := (l_k11.step of14 ff14).below bn14
            have ms5 := ms5.below bn14
            clear of14 ff14 rn bn14
            generalize (X14.alloc (.cells Z 40)).setRow X14.heap.size RW = Y14 at l_k14 l_k10 l_k11 ms5 ⊢
            generalize X14.heap.size = k14 at l_k14 ⊢
            clear hcR ms f1
            have f1 : Y14.cell? ⟨k10, 1, none⟩ = some (.int .u64 nn) := row_at l_k10.1 1 _ HRB.out.2.2.2.1
            have hcE : Calls Try.prog 12 #[.pointer (some ⟨g, 0, none⟩), .agg #[.int .u8 3, .int .u64 nn, .int .u16 0, .int .i64 0, .string ⟨#[]⟩]] Y14 fun r w' => r = .returned (.agg (doR s (cE 3 nn)).arr) ∧ Step w F14 g (doS s (cE 3 nn)) Y14 w' := ms5.call (cE 3 nn) (cE_ok (Or.inl rfl) (by omega)) (by have := HA.out.2.begun; have := hn40_oa; have := hn40_ob; omega)
            rw [has_commit0 HA.out.1.has] at hcE
            obtain ⟨RE, HDRE⟩ : ∃ R, Hid ((Rep.mk 0 0 st (zs 64)).arr = R) := ⟨_, rfl⟩
            have HRE : Hid (RE.size = 67 ∧ RE.all (·.oneCell') = true ∧ RE[0]? = some (.int .i64 (Rep.mk 0 0 st (zs 64)).err) ∧ RE[1]? = some (.int .u64 (Rep.mk 0 0 st (zs 64)).txn) ∧ RE[2]? = some (.int .u32 (Rep.mk 0 0 st (zs 64)).ts)) := by rw [← HDRE.out]; exact ⟨Rep.arr_size (zs_length _), Rep.one _, rfl, rfl, rfl⟩
            rw [HDRE.out] at hcE
            have hd := hcE
            have ts : Hid (1 = 1) := rfl
            go_upto_region 23 with (first
              | (go_at_call 12; refine Calls.mono hd ?_; clear hd; rintro e X15 ⟨he, hst⟩; obtain rfl := he; have rn : Row (X15.alloc (.cells Z 40)) X15.heap.size Z 40 := Row.new _ _ _)
              | (have hh := ts; clear hh ts; refine store_cells rfl 40 (.tmp 15) (.tmp 84) rfl X15.heap.size RE rfl rfl 40 _ rn 67 size40 HZS.out HRE.out.1 HRE.out.2.1 ?_))
            obtain ⟨F15, ms6, of15, ff15⟩ := hst
            have bn15 : Below X15.heap.size X15 ((X15.alloc (.cells Z 40)).setRow X15.heap.size RE) := below_setRow ((Below.refl _ _).alloc (Nat.le_refl _) _) (Nat.le_refl _) _
            have l_k15 : Loc F15 ((X15.alloc (.cells Z 40)).setRow X15.heap.size RE) X15.heap.size RE 40 := ⟨rn.set _, ms6.fresh⟩
            have l_k10 := (l_k10.step of15 ff15).below bn15
            have l_k11 := (l_k11.step of15 ff15).below bn15
            have l_k14 := (l_k14.step of15 ff15).below bn15
            have ms6 := ms6.below bn15
            clear of15 ff15 rn bn15
            generalize (X15.alloc (.cells Z 40)).setRow X15.heap.size RE = Y15 at l_k15 l_k10 l_k11 l_k14 ms6 ⊢
            generalize X15.heap.size = k15 at l_k15 ⊢
            clear hcE ms5 f1
            have g0 : Y15.cell? ⟨k11, 0, none⟩ = some (.int .i64 0) := row_at l_k11.1 0 _ HRW.out.2.2.1
            have g1 : Y15.cell? ⟨k11, 2, none⟩ = some (.int .u32 V.ts) := row_at l_k11.1 2 _ HRW.out.2.2.2.2
            have g2 : Y15.cell? ⟨k10, 2, none⟩ = some (.int .u32 st) := row_at l_k10.1 2 _ HRB.out.2.2.2.2
            have g3 : Y15.cell? ⟨k15, 0, none⟩ = some (.int .i64 0) := row_at l_k15.1 0 _ HRE.out.2.2.1
            have g4 : Y15.cell? ⟨k15, 2, none⟩ = some (.int .u32 st) := row_at l_k15.1 2 _ HRE.out.2.2.2.2
            have hle : V.ts ≤ st := HVK.out.2
            have heq : ∀ w, (Op.equalIn 10000 40 (.agg RW) (.agg RW)).run Try.prog w = .ok true w := fun w => by rw [← HDRW.out, equal40 _ _ HVK.out.1.wr.1 HVK.out.1.wr.1]; simp
            have r11 := l_k11.1
            have r14 := l_k14.1
            have haw := HAW.out Y15
            have tl : Hid (1 = 1) := rfl
            have tm : Hid (1 = 1) := rfl
            go_wp2_with (first
              | (have hh := tl; clear hh tl; refine load_cells rfl 40 (.tmp 11) rfl k11 rfl 40 RW r11 67 Try.underlying40 rfl size40 HRW.out.1 ?_)
              | (have hh := tm; clear hh tm; refine load_cells rfl 40 (.tmp 14) rfl k14 rfl 40 RW r14 67 Try.underlying40 rfl size40 HRW.out.1 ?_)
              | (go_at_call 10; refine Calls.mono haw ?_; clear haw; rintro e W9 ⟨he, hb9⟩; obtain rfl := he))
            rw [HPP.out]
            exact ⟨rfl, ms6.bel.trans (hb9.mono ms6.bel.size)⟩
      · have hcB2 := hcB
        rw [(begun_none HA.out.cl hl8).1, (begun_none HA.out.cl hl8).2] at hcB2
        clear hcB
        obtain ⟨RB, HDRB⟩ : ∃ R, Hid ((Rep.fail 10).arr = R) := ⟨_, rfl⟩
        have HRB : Hid (RB.size = 67 ∧ RB.all (·.oneCell') = true ∧ RB[0]? = some (.int .i64 (Rep.fail 10).err) ∧ RB[1]? = some (.int .u64 (Rep.fail 10).txn) ∧ RB[2]? = some (.int .u32 (Rep.fail 10).ts)) := by rw [← HDRB.out]; exact ⟨Rep.arr_size (zs_length _), Rep.one _, rfl, rfl, rfl⟩
        rw [HDRB.out] at hcB2
        have hd := hcB2
        have ts : Hid (1 = 1) := rfl
        go_upto_region 12 with (first
          | (go_at_call 12; refine Calls.mono hd ?_; clear hd; rintro e X10 ⟨he, hst⟩; obtain rfl := he; have rn : Row (X10.alloc (.cells Z 40)) X10.heap.size Z 40 := Row.new _ _ _)
          | (have hh := ts; clear hh ts; refine store_cells rfl 40 (.tmp 10) (.tmp 37) rfl X10.heap.size RB rfl rfl 40 _ rn 67 size40 HZS.out HRB.out.1 HRB.out.2.1 ?_))
        obtain ⟨F10, ms1, of10, ff10⟩ := hst
        have bn10 : Below X10.heap.size X10 ((X10.alloc (.cells Z 40)).setRow X10.heap.size RB) := below_setRow ((Below.refl _ _).alloc (Nat.le_refl _) _) (Nat.le_refl _) _
        have l_k10 : Loc F10 ((X10.alloc (.cells Z 40)).setRow X10.heap.size RB) X10.heap.size RB 40 := ⟨rn.set _, ms1.fresh⟩
        have ms1 := ms1.below bn10
        clear of10 ff10 rn bn10
        generalize (X10.alloc (.cells Z 40)).setRow X10.heap.size RB = Y10 at l_k10  ms1 ⊢
        generalize X10.heap.size = k10 at l_k10 ⊢
        have f0 : Y10.cell? ⟨k10, 0, none⟩ = some (.int .i64 10) := row_at l_k10.1 0 _ HRB.out.2.2.1
        have haw := HAW.out Y10
        go_wp2_with (go_at_call 10; refine Calls.mono haw ?_; clear haw; rintro e W9 ⟨he, hb9⟩; obtain rfl := he)
        rw [HPP.out]
        exact ⟨rfl, ms1.bel.trans (hb9.mono ms1.bel.size)⟩

set_option maxRecDepth 100000 in
theorem lifted (os : Os) (started : os.Started) (H : Type) (enc : TypeId × Value → H) :
    ReturnsInHanded {} Try.checked os 4 .any (Rows.modelSnapshotsSpec.pre6 enc Try.prog Try.f4 Rows.modelSnapshotsRow.domain false) (Rows.modelSnapshotsSpec.post enc Try.prog Try.f4 false true false false) := by
  refine returnsInHanded_of_change_sized (C := Try.checked) own started (by kernel_rfl) Try.func4
    (ChangeSpec.witness6 (enc := enc) (C := Try.checked) false ⟨#[], #[.slice none 0 0, .slice none 0 0, .int .u16 0], []⟩ 8 (by kernel_rfl) (by kernel_rfl) (by kernel_rfl) (by kernel_rfl)) ?_
  intro W base args ds gs before hval0 hW hcnd hsz0 _
  have hval : ∀ (j : Nat) t v, Try.f4.params[j]? = some t → args[j]? = some v → Value.okWide Try.prog W .any base t v := hval0
  have hW' := hW
  obtain ⟨p, q, hA0, hV, rfl, hfz, hnd⟩ := hW
  have hA : DataW.TrodAll enc Try.prog W 0 (fun _ => true) true Try.f4.params.toList args.toList ds p := hA0
  have hsz : (DataW.weightsEach Try.prog (Try.f4.params.toList ++ []) (ds ++ gs)).all (· ≤ reachBytes) = true := hsz0
  rw [Try.params4] at hA hval hsz
  obtain ⟨v0, vs0, d0, ds0, p0, q0, hargs, rfl, rfl, h0, r0⟩ := trodAll_cons hA
  obtain ⟨v1, vs1, d1, ds1, p1, q1, rfl, rfl, rfl, h1, r1⟩ := trodAll_cons r0
  obtain ⟨v2, vs2, d2, ds2, p2, q2, rfl, rfl, rfl, h2, r2⟩ := trodAll_cons r1
  obtain ⟨rfl, rfl, rfl⟩ := trodAll_nil r2
  obtain rfl : args = #[v0, v1, v2] := by cases args; simp_all
  obtain ⟨rfl, rfl⟩ := trodVars_none hV
  simp only [List.append_nil] at hsz
  have hlt : ∀ x ∈ (p0 ++ (p1 ++ (p2 ++ []))), x.block < W.heap.size := fun x hx => hW'.lt x (by simpa using hx)
  have hw0 : (d0.weights Try.prog 23).all (· ≤ reachBytes) = true := List.all_eq_true.2 fun m hm => List.all_eq_true.1 hsz m (by simp [DataW.weightsEach, hm])
  have hw1 : (d1.weights Try.prog 23).all (· ≤ reachBytes) = true := List.all_eq_true.2 fun m hm => List.all_eq_true.1 hsz m (by simp [DataW.weightsEach, hm])
  have hw2 : (d2.weights Try.prog 33).all (· ≤ reachBytes) = true := List.all_eq_true.2 fun m hm => List.all_eq_true.1 hsz m (by simp [DataW.weightsEach, hm])
  have k0 := h0
  have k1 := h1
  have k2 := h2
  obtain ⟨a0, w0⟩ := open_mcals (hval 0 23 v0 rfl rfl) h0 hw0
  obtain ⟨a1, w1⟩ := open_mcals (hval 1 23 v1 rfl rfl) h1 hw1
  obtain ⟨a2, rfl, rfl, rfl, w2⟩ := open_int Try.underlying33 (hval 2 33 v2 rfl rfl) h2
  clear hA0 hval0
  simp only [List.append_nil] at hW'
  refine (walk W v0 a0 v1 a1 a2 w0 w1 w2).mono fun e W' ⟨he, hg⟩ => ?_
  subst he
  exact ⟨_, rfl, ⟨_, _, _, [], (p0 ++ (p1 ++ ([] ++ []))), [], hW', (trodAll_cons_mk (shut_bool Try.underlying4 _) trodAll_mk0), (trodAll_cons_mk (Below.trod laidOut (by kernel_rfl) (of_decide_eq_true (by kernel_rfl)) k0 hg (fun x hx => hlt x (by simp [hx]))) (trodAll_cons_mk (Below.trod laidOut (by kernel_rfl) (of_decide_eq_true (by kernel_rfl)) k1 hg (fun x hx => hlt x (by simp [hx]))) (trodAll_cons_mk (Below.trod laidOut (by kernel_rfl) (of_decide_eq_true (by kernel_rfl)) k2 hg (fun x hx => (nomatch hx))) trodAll_mk0))), rfl,
    hg.frame _, fun h => by cases h⟩⟩

theorem over : Rows.modelSnapshotsRow.holds Try.pinned (OpenSpec.ofChange Rows.modelSnapshotsSpec) :=
  OpenClaim.holds_of_wide 4 Try.f4 rfl rfl rfl rfl rfl rfl rfl ⟨rfl, rfl, rfl, rfl, rfl⟩ rfl rfl rfl rfl rfl (by kernel_rfl) Try.func4 (by kernel_rfl)
    (of_decide_eq_true (by kernel_rfl)) (by unfold Func.isWrapper; first | (rw [if_pos (by decide +kernel)]; kernel_rfl) | (rw [if_neg (by decide +kernel)]; exact ⟨rfl, rfl⟩))
    (fun os started H enc _ => lifted os started H enc)

/-- The statement. -/
theorem proved : Rows.ModelSnapshotsSaid :=
  over
#print axioms proved
end Go.Proofs.Ytpncmbkklkfmnaa.modelSnapshots
