/-
  Proved here: what was packed is told again; where some sectors are those of another such block, of another number or epoch, nothing is (RingBack), for all chunks and all ways to take sectors.
-/
import Derived.Test.YtbpaffjoedihbaaOpn
import Derived.Test.YtbpaffjoedihbaaSTorn
namespace Go.Proofs.Ytbpaffjoedihbaa.ringBack
open Go.ChangeShapes Go.WideShapes Go.ChangeAt Go.RowKit
open Go.Deep
set_option linter.unusedVariables false
set_option linter.unusedSimpArgs false

theorem own : ownKnob Try.prog.godebug = none := by kernel_rfl

theorem gotC_is (b : List Int) : ∃ (e n o : Int) (s : ByteArray), gotC b = #[.int .u32 e, .int .u32 n, .int .u64 o, .string s] := by
  unfold gotC; split
  · exact ⟨_, _, _, _, rfl⟩
  · exact ⟨_, _, _, _, rfl⟩
/-- Two blocks of unlike stamps, mixed, are no chunk's. -/
theorem isB_mixed (c : Nat) (e n o e2 n2 o2 : Int) (l l2 : List Int) (h1 : 0 ≤ e ∧ e ≤ 4294967295) (h2 : 0 ≤ n ∧ n ≤ 4294967295) (h3 : 0 ≤ e2 ∧ e2 ≤ 4294967295) (h4 : 0 ≤ n2 ∧ n2 ≤ 4294967295) (h0 : ¬ c % 16 = 0) (h15 : ¬ c % 16 = 15) (hne : ¬ (e = e2 ∧ n = n2)) :
    isB (Sl.mix c (packB e n o l) (packB e2 n2 o2 l2) 4) = false := by
  have := (Sl.open_mixed c (e * 4294967296 + n) (e2 * 4294967296 + n2) (padT (packT o l)) (padT (packT o2 l2)) (by omega) (by omega) h0 h15).2 (by omega)
  have hw : whole (Sl.mix c (packB e n o l) (packB e2 n2 o2 l2) 4) = false := by
    cases h : whole (Sl.mix c (packB e n o l) (packB e2 n2 o2 l2) 4)
    · rfl
    · have q := opened_whole _ h
      unfold packB at q
      rw [this] at q
      simp at q
  unfold isB
  rw [hw]; rfl
theorem pack_of (e n o : Int) (s : ByteArray) (hc : Chu e n o s) (hk : okC s = true) : isB (packV e n o s) = true ∧ gotC (packV e n o s) = #[.int .u32 e, .int .u32 n, .int .u64 o, .string s] ∧ Bytes (packV e n o s) ∧ packV e n o s = packB e n o (nums s) := by
  have hv : packV e n o s = packB e n o (nums s) := by unfold packV; rw [hk, if_pos rfl]
  have hl : 1 ≤ (nums s).length ∧ (nums s).length ≤ 214 := by rw [nums_length]; unfold okC at hk; exact of_decide_eq_true hk
  obtain ⟨a, b⟩ := packed_is e n o (nums s) hc.epoch hc.number hc.offset hl (nums_bytes s)
  rw [hv]
  refine ⟨a, ?_, packB_bytes _ _ _ _ (nums_bytes s), rfl⟩
  rw [b, tx_nums]; rfl
theorem mix_yes (c : Nat) (A B : List Int) (k : Nat) (h : c / 2 ^ k % 2 = 1) : Sl.mix c A B (k + 1) = Sl.lay (Sl.mix c A B k) k (Sl.cut B k) := by
  show (if c / 2 ^ k % 2 = 1 then _ else _) = _
  rw [if_pos h]
theorem mix_no (c : Nat) (A B : List Int) (k : Nat) (h : ¬ c / 2 ^ k % 2 = 1) : Sl.mix c A B (k + 1) = Sl.mix c A B k := by
  show (if c / 2 ^ k % 2 = 1 then _ else _) = _
  rw [if_neg h]
theorem cut_as (b : List Int) (hb : b.length = 256) (k : Nat) (hk : k < 4) (r : List Int) (hr : Sl.cut b k = r) (w : World) :
    Calls Try.prog 15 #[.agg (bs b), .int .i64 k] w fun e w' => e = .returned (.agg (bs r)) ∧ Below w.heap.size w w' := by subst hr; exact Sl.cut_in b hb k hk w
theorem lay_as (b t : List Int) (hb : b.length = 256) (ht : t.length = 64) (k : Nat) (hk : k < 4) (r : List Int) (hr : Sl.lay b k t = r) (w : World) :
    Calls Try.prog 14 #[.agg (bs b), .int .i64 k, .agg (bs t)] w fun e w' => e = .returned (.agg (bs r)) ∧ Below w.heap.size w w' := by subst hr; exact Sl.lay_in b t hb ht k hk w
set_option maxRecDepth 20000 in
set_option maxHeartbeats 8000000 in
theorem walk (w : World) (e n o : Int) (s : ByteArray) (e2 n2 o2 : Int) (s2 : ByteArray) (keep : Int) (hc : Chu e n o s) (hc2 : Chu e2 n2 o2 s2) (w4 : (Lit.int .u8 keep).wf = true) :
    Calls Try.prog 4 #[.agg #[.int .u32 e, .int .u32 n, .int .u64 o, .string s], .agg #[.int .u32 e2, .int .u32 n2, .int .u64 o2, .string s2], .int .u8 keep] w fun ex w' => ex = .returned (.bool true) ∧ Below w.heap.size w w' := by
  have hk := bounds_u8 w4
  clear w4
  obtain ⟨c, rfl⟩ := Int.eq_ofNat_of_zero_le hk.1
  have hc256 : c < 256 := by omega
  clear hk
  have hz1 := zero27
  have hz2 := zero25
  have HP1 : Hid _ := fun w => pack_any e n o s w hc.epoch hc.number hc.offset hc.size
  have HP2 : Hid _ := fun w => pack_any e2 n2 o2 s2 w hc2.epoch hc2.number hc2.offset hc2.size
  have HAW : Hid _ := fun w => awake_any w
  have HAL : Hid _ := packV_length e n o s
  have HBL : Hid _ := packV_length e2 n2 o2 s2
  have HPE : Hid (packE s = if okC s then 0 else 1) := rfl
  have HPE2 : Hid (packE s2 = if okC s2 then 0 else 1) := rfl
  have HO1 : Hid _ := pack_of e n o s hc
  have HO2 : Hid _ := pack_of e2 n2 o2 s2 hc2
  have HMX : Hid _ := isB_mixed c e n o e2 n2 o2 (nums s) (nums s2) hc.epoch hc.number hc2.epoch hc2.number
  generalize packE s = PE at HP1 HPE
  generalize packE s2 = PE2 at HP2 HPE2
  obtain ⟨A, HA⟩ : ∃ A, Hid (packV e n o s = A) := ⟨_, rfl⟩
  obtain ⟨B, HB⟩ : ∃ A, Hid (packV e2 n2 o2 s2 = A) := ⟨_, rfl⟩
  rw [HA.out] at HP1 HAL HO1
  rw [HB.out] at HP2 HBL HO2
  have hAb : (bs A).size = 256 := by rw [bs_size, HAL.out]
  have hBb : (bs B).size = 256 := by rw [bs_size, HBL.out]
  have r0 : Row ((w.alloc (.cells #[.int .u32 e, .int .u32 n, .int .u64 o, .string s] 25)).alloc (.cells #[.int .u32 e2, .int .u32 n2, .int .u64 o2, .string s2] 25)) w.heap.size #[.int .u32 e, .int .u32 n, .int .u64 o, .string s] 25 := (Row.new _ _ _).alloc _
  have r1 : Row ((w.alloc (.cells #[.int .u32 e, .int .u32 n, .int .u64 o, .string s] 25)).alloc (.cells #[.int .u32 e2, .int .u32 n2, .int .u64 o2, .string s2] 25)) (w.heap.size + 1) #[.int .u32 e2, .int .u32 n2, .int .u64 o2, .string s2] 25 := by have := Row.new (w.alloc (.cells #[.int .u32 e, .int .u32 n, .int .u64 o, .string s] 25)) #[.int .u32 e2, .int .u32 n2, .int .u64 o2, .string s2] 25; simpa using this
  have ab : Below w.heap.size w ((w.alloc (.cells #[.int .u32 e, .int .u32 n, .int .u64 o, .string s] 25)).alloc (.cells #[.int .u32 e2, .int .u32 n2, .int .u64 o2, .string s2] 25)) := ((Below.refl _ _).alloc (Nat.le_refl _) _).alloc (by simp) _
  clear hc hc2
  go_enter Try.func4, Try.ntmps4
  go_upto_region 1 with fail
  generalize (w.alloc (.cells #[.int .u32 e, .int .u32 n, .int .u64 o, .string s] 25)).alloc (.cells #[.int .u32 e2, .int .u32 n2, .int .u64 o2, .string s2] 25) = w1 at r0 r1 ab ⊢
  go_upto_region 2 with (first
    | (refine load_cells rfl 25 (.tmp 3) rfl w.heap.size rfl 25 #[.int .u32 e, .int .u32 n, .int .u64 o, .string s] r0 4 Try.underlying25 rfl size25 rfl ?_)
    | (go_at_call 9; refine (HP1.out _).mono ?_; clear HP1; rintro ex w2 ⟨rfl, h2⟩
       have q2 : Row (w2.alloc (.cells (bs (zs 256)) 27)) w2.heap.size (bs (zs 256)) 27 := Row.new _ _ _)
    | (refine store_row rfl 27 (.tmp 7) (.tmp 19) rfl w2.heap.size A rfl rfl 27 _ q2 256 size27 (by rw [bs_size, zs_length]) HAL.out ?_))
  have r0 := r0.below h2 r0.lt
  have r1 := r1.below h2 r1.lt
  have lw2 := r1.lt
  have ab := ab.trans (h2.mono ab.size)
  have r0 := (r0.alloc (.cells (bs (zs 256)) 27)).other (g := w2.heap.size) (by omega) (bs A)
  have r1 := (r1.alloc (.cells (bs (zs 256)) 27)).other (g := w2.heap.size) (by omega) (bs A)
  have q2 := q2.set (bs A)
  have ab := below_setRow (ab.alloc ab.size (.cells (bs (zs 256)) 27)) ab.size (bs A)
  clear h2
  generalize (w2.alloc (.cells (bs (zs 256)) 27)).setRow w2.heap.size (bs A) = w2x at r0 r1 q2 ab ⊢
  generalize w2.heap.size = gw2 at q2 lw2 ⊢
  go_upto_region 3 with (first
    | (refine load_cells rfl 25 (.tmp 4) rfl (w.heap.size + 1) rfl 25 #[.int .u32 e2, .int .u32 n2, .int .u64 o2, .string s2] r1 4 Try.underlying25 rfl size25 rfl ?_)
    | (go_at_call 9; refine (HP2.out _).mono ?_; clear HP2; rintro ex w3 ⟨rfl, h3⟩
       have q3 : Row (w3.alloc (.cells (bs (zs 256)) 27)) w3.heap.size (bs (zs 256)) 27 := Row.new _ _ _)
    | (refine store_row rfl 27 (.tmp 9) (.tmp 24) rfl w3.heap.size B rfl rfl 27 _ q3 256 size27 (by rw [bs_size, zs_length]) HBL.out ?_))
  have r0 := r0.below h3 r0.lt
  have r1 := r1.below h3 r1.lt
  have q2 := q2.below h3 q2.lt
  have lw3 := q2.lt
  have ab := ab.trans (h3.mono ab.size)
  have r0 := (r0.alloc (.cells (bs (zs 256)) 27)).other (g := w3.heap.size) (by omega) (bs B)
  have r1 := (r1.alloc (.cells (bs (zs 256)) 27)).other (g := w3.heap.size) (by omega) (bs B)
  have q2 := (q2.alloc (.cells (bs (zs 256)) 27)).other (g := w3.heap.size) (by omega) (bs B)
  have q3 := q3.set (bs B)
  have ab := below_setRow (ab.alloc ab.size (.cells (bs (zs 256)) 27)) ab.size (bs B)
  clear h3
  generalize (w3.alloc (.cells (bs (zs 256)) 27)).setRow w3.heap.size (bs B) = w3x at r0 r1 q2 q3 ab ⊢
  generalize w3.heap.size = gw3 at q3 lw3 ⊢
  cases hk1 : okC s
  · obtain rfl : PE = 1 := by rw [HPE.out, hk1]; rfl
    clear hk1
    go_wp2_with (go_at_call 13; refine (HAW.out _).mono ?_; clear HAW; rintro ex w6 ⟨rfl, h6⟩)
    go_ret
    exact ⟨rfl, ab.trans (h6.mono ab.size)⟩
  · obtain rfl : PE = 0 := by rw [HPE.out, hk1]; rfl
    cases hk2 : okC s2
    · obtain rfl : PE2 = 1 := by rw [HPE2.out, hk2]; rfl
      clear hk1 hk2
      go_wp2_with (go_at_call 13; refine (HAW.out _).mono ?_; clear HAW; rintro ex w6 ⟨rfl, h6⟩)
      go_ret
      exact ⟨rfl, ab.trans (h6.mono ab.size)⟩
    · obtain rfl : PE2 = 0 := by rw [HPE2.out, hk2]; rfl
      obtain ⟨iA, gA, bA, eA⟩ := HO1.out hk1
      obtain ⟨iB, gB, bB, eB⟩ := HO2.out hk2
      have HU1 : Hid _ := fun w => unpack_any A w HAL.out bA
      rw [iA, gA] at HU1
      have HIA : Hid (isB A = true ∧ gotC A = #[.int .u32 e, .int .u32 n, .int .u64 o, .string s]) := ⟨iA, gA⟩
      have HIB : Hid (isB B = true ∧ gotC B = #[.int .u32 e2, .int .u32 n2, .int .u64 o2, .string s2]) := ⟨iB, gB⟩
      rw [← eA, ← eB] at HMX
      have HYA : Hid (Bytes A) := bA
      have HYB : Hid (Bytes B) := bB
      have heq := fun w => equal25 e n o e n o s s w
      simp only [decide_true, Bool.and_true] at heq
      clear hk1 hk2 iA gA bA eA iB gB bB eB HO1 HO2 HPE HPE2
      go_upto_region 6 with (first
        | (refine load_row rfl 27 (.tmp 7) rfl gw2 rfl 27 (bs A) q2 256 5 Try.underlying27 size27 hAb ?_)
        | (go_at_call 11; refine (HU1.out _).mono ?_; clear HU1; rintro ex w4 ⟨rfl, h4⟩
           have q4 : Row (w4.alloc (.cells #[.int .u32 0, .int .u32 0, .int .u64 0, .string ByteArray.empty] 25)) w4.heap.size #[.int .u32 0, .int .u32 0, .int .u64 0, .string ByteArray.empty] 25 := Row.new _ _ _)
        | (refine store_cells rfl 25 (.tmp 11) (.tmp 36) rfl w4.heap.size #[.int .u32 e, .int .u32 n, .int .u64 o, .string s] rfl rfl 25 _ q4 4 size25 rfl rfl (by simp [Value.oneCell']) ?_))
      have r0 := r0.below h4 r0.lt
      have r1 := r1.below h4 r1.lt
      have q2 := q2.below h4 q2.lt
      have q3 := q3.below h4 q3.lt
      have lw4 := q3.lt
      have ab := ab.trans (h4.mono ab.size)
      have r0 := (r0.alloc (.cells #[.int .u32 0, .int .u32 0, .int .u64 0, .string ByteArray.empty] 25)).other (g := w4.heap.size) (by omega) #[.int .u32 e, .int .u32 n, .int .u64 o, .string s]
      have r1 := (r1.alloc (.cells #[.int .u32 0, .int .u32 0, .int .u64 0, .string ByteArray.empty] 25)).other (g := w4.heap.size) (by omega) #[.int .u32 e, .int .u32 n, .int .u64 o, .string s]
      have q2 := (q2.alloc (.cells #[.int .u32 0, .int .u32 0, .int .u64 0, .string ByteArray.empty] 25)).other (g := w4.heap.size) (by omega) #[.int .u32 e, .int .u32 n, .int .u64 o, .string s]
      have q3 := (q3.alloc (.cells #[.int .u32 0, .int .u32 0, .int .u64 0, .string ByteArray.empty] 25)).other (g := w4.heap.size) (by omega) #[.int .u32 e, .int .u32 n, .int .u64 o, .string s]
      have q4 := q4.set #[.int .u32 e, .int .u32 n, .int .u64 o, .string s]
      have ab := below_setRow (ab.alloc ab.size (.cells #[.int .u32 0, .int .u32 0, .int .u64 0, .string ByteArray.empty] 25)) ab.size #[.int .u32 e, .int .u32 n, .int .u64 o, .string s]
      clear h4
      generalize (w4.alloc (.cells #[.int .u32 0, .int .u32 0, .int .u64 0, .string ByteArray.empty] 25)).setRow w4.heap.size #[.int .u32 e, .int .u32 n, .int .u64 o, .string s] = w4x at r0 r1 q2 q3 q4 ab ⊢
      generalize w4.heap.size = gw4 at q4 lw4 ⊢
      have t1 : Hid (1 = 1) := rfl
      have t2 : Hid (1 = 1) := rfl
      go_wp2_with (first
        | (have hh := t1; clear hh t1; refine load_cells_g rfl 25 (.tmp 11) rfl gw4 rfl 25 #[.int .u32 e, .int .u32 n, .int .u64 o, .string s] q4 4 Try.underlying25 rfl size25 rfl ?_)
        | (have hh := t2; clear hh t2; refine load_cells_g rfl 25 (.tmp 3) rfl w.heap.size rfl 25 #[.int .u32 e, .int .u32 n, .int .u64 o, .string s] r0 4 Try.underlying25 rfl size25 rfl ?_))
      clear q4
      have q2 : Row w4x gw2 (bs (Sl.mix c A B 0)) 27 := q2
      go_loopw [13] (fun i wr => ∃ k : Nat, k ≤ 4 ∧ i = .int .i64 k ∧ Row wr gw2 (bs (Sl.mix c A B k)) 27 ∧ Row wr gw3 (bs B) 27 ∧ Row wr w.heap.size #[.int .u32 e, .int .u32 n, .int .u64 o, .string s] 25 ∧ Row wr (w.heap.size + 1) #[.int .u32 e2, .int .u32 n2, .int .u64 o2, .string s2] 25 ∧ Below w.heap.size w wr) (fun i _ => 4 - (intOf i).toNat)
      case atStart => exact ⟨0, by omega, rfl, q2, q3, r0, r1, ab⟩
      case round =>
        clear q2 q3 r0 r1 ab
        obtain ⟨k, hk, rfl, q2, q3, r0, r1, ab⟩ := hrel
        by_cases hlt : k < 4
        · have hlt' : (k : Int) < 4 := by omega
          have hbit := Sl.bit_code c k hc256
          by_cases hcb : c / 2 ^ k % 2 = 1
          · rw [if_pos hcb] at hbit
            have HM1 : Hid (Sl.lay (Sl.mix c A B k) k (Sl.cut B k) = Sl.mix c A B (k + 1)) := (mix_yes c A B k hcb).symm
            have HML : Hid _ := Sl.mix_length c A B HAL.out HBL.out k (by omega)
            have HML2 : Hid _ := Sl.mix_length c A B HAL.out HBL.out (k + 1) (by omega)
            have hCl := Sl.cut_length B k HBL.out hlt
            have HC1 : Hid _ := cut_as B HBL.out k hlt _ rfl
            obtain ⟨CC, HCC⟩ : ∃ x, Hid (Sl.cut B k = x) := ⟨_, rfl⟩
            rw [HCC.out] at HM1 hCl HC1
            obtain ⟨M2, HM2⟩ : ∃ x, Hid (Sl.mix c A B (k + 1) = x) := ⟨_, rfl⟩
            rw [HM2.out] at HM1 HML2
            obtain ⟨M, HM⟩ : ∃ x, Hid (Sl.mix c A B k = x) := ⟨_, rfl⟩
            rw [HM.out] at HM1 HML q2
            have HL1 : Hid _ := lay_as M CC HML.out hCl k hlt M2 HM1.out
            have hMb : (bs M).size = 256 := by rw [bs_size, HML.out]
            have hM2b : (bs M2).size = 256 := by rw [bs_size, HML2.out]
            clear hCl hcb
            have l2 := q2.lt
            go_upto_region 12 with fail
            clear hbit
            refine wp_region_held_drew (S := fun w' => Row w' gw3 (bs B) 27 ∧ Row w' w.heap.size #[.int .u32 e, .int .u32 n, .int .u64 o, .string s] 25 ∧ Row w' (w.heap.size + 1) #[.int .u32 e2, .int .u32 n2, .int .u64 o2, .string s2] 25 ∧ Below w.heap.size w w') (by kernel_rfl) ⟨q3, r0, r1, ab.drew⟩ fun hS => ?_
            have q2 : Row wr.drew gw2 (bs M) 27 := q2
            clear q3 r0 r1 ab
            generalize wr.drew = wd at hS q2 ⊢
            refine wpAnyH_take (i := 1) (v := .int .i64 k) rfl (by kernel_rfl) (by kernel_rfl) (by kernel_rfl) (fun _ _ _ h => h) (Or.inl ⟨by rfl, fun w _ => by go_simp⟩) hS ?_
            try simp only [Act.put, List.getElem_toArray, List.getElem_cons_zero, List.getElem_cons_succ, List.setIfInBounds_toArray, List.set_cons_zero, List.set_cons_succ]
            refine wpAnyH_take (i := 2) (v := .agg (bs B)) rfl (by kernel_rfl) (by kernel_rfl) (by kernel_rfl) (fun _ _ _ h => h) (yields_row (by rfl) 27 (.tmp 9) rfl gw3 rfl 27 (bs B) (fun w h => h.1) 256 5 Try.underlying27 size27 hBb) hS ?_
            try simp only [Act.put, List.getElem_toArray, List.getElem_cons_zero, List.getElem_cons_succ, List.setIfInBounds_toArray, List.set_cons_zero, List.set_cons_succ]
            refine wpAnyH_take (i := 3) (v := .int .i64 k) rfl (by kernel_rfl) (by kernel_rfl) (by kernel_rfl) (fun _ _ _ h => h) (Or.inl ⟨by rfl, fun w _ => by go_simp⟩) hS ?_
            try simp only [Act.put, List.getElem_toArray, List.getElem_cons_zero, List.getElem_cons_succ, List.setIfInBounds_toArray, List.set_cons_zero, List.set_cons_succ]
            refine wpAnyH_ready (rs := [0, 4]) (by kernel_rfl) (by simp) ?_
            exact (AllReadyH.cons rfl (fun K hK => by
              refine step_load rfl 27 (.tmp 7) rfl gw2 rfl 27 (bs M) q2 256 5 Try.underlying27 size27 hMb (hK.out _ _ hS fun hS => ?_)
              try simp only [Act.put, List.getElem_toArray, List.getElem_cons_zero, List.getElem_cons_succ, List.setIfInBounds_toArray, List.set_cons_zero, List.set_cons_succ]
              refine wpAnyH_ready (rs := [4]) (by kernel_rfl) (by simp) ?_
              refine AllReadyH.cons rfl (fun K hK => ?_) AllReadyH.nil
              go_simp
              go_at_call 15
              refine Calls.mono (HC1.out _) ?_
              rintro e w2_4 ⟨rfl, hcb⟩
              have q2 := q2.below hcb q2.lt
              refine hK.out _ _ (⟨hS.1.below hcb hS.1.lt, hS.2.1.below hcb hS.2.1.lt, hS.2.2.1.below hcb hS.2.2.1.lt, hS.2.2.2.trans (hcb.mono hS.2.2.2.size)⟩) fun hS => ?_
              try simp only [Act.put, List.getElem_toArray, List.getElem_cons_zero, List.getElem_cons_succ, List.setIfInBounds_toArray, List.set_cons_zero, List.set_cons_succ]
              clear hcb
              refine wpAnyH_ready (rs := [5]) (by kernel_rfl) (by simp) ?_
              refine AllReadyH.cons rfl (fun K hK => ?_) AllReadyH.nil
              go_simp
              go_at_call 14
              refine Calls.mono (HL1.out _) ?_
              rintro e w3_5 ⟨rfl, hcb⟩
              have q2 := q2.below hcb q2.lt
              refine hK.out _ _ (⟨hS.1.below hcb hS.1.lt, hS.2.1.below hcb hS.2.1.lt, hS.2.2.1.below hcb hS.2.2.1.lt, hS.2.2.2.trans (hcb.mono hS.2.2.2.size)⟩) fun hS => ?_
              try simp only [Act.put, List.getElem_toArray, List.getElem_cons_zero, List.getElem_cons_succ, List.setIfInBounds_toArray, List.set_cons_zero, List.set_cons_succ]
              clear hcb
              refine wpAnyH_ready (rs := [6]) (by kernel_rfl) (by simp) ?_
              refine AllReadyH.cons rfl (fun K hK => ?_) AllReadyH.nil
              refine step_cells rfl 27 (.tmp 7) (.tmp 59) rfl gw2 (bs M2) rfl rfl 27 _ q2 256 size27 hMb hM2b (bs_one _) (hK.out _ _ ⟨hS.1.other (by omega) _, hS.2.1.other (by omega) _, hS.2.2.1.other (by omega) _, below_setRow hS.2.2.2 (by omega) _⟩ fun hS => ?_)
              try simp only [Act.put, List.getElem_toArray, List.getElem_cons_zero, List.getElem_cons_succ, List.setIfInBounds_toArray, List.set_cons_zero, List.set_cons_succ]
              have q2 := q2.set (bs M2)
              generalize w3_5.setRow gw2 (bs M2) = w4_6 at q2 hS ⊢
              refine wpAnyH_done (by kernel_rfl) ?_ _
              go_wp2
              go_roundw
              case rel => exact ⟨k + 1, by omega, by go_num, by rw [HM2.out]; exact q2, hS.1, hS.2.1, hS.2.2.1, hS.2.2.2⟩
              case measure => simp [intOf]; omega
            ) (AllReadyH.cons rfl (fun K hK => by
              go_simp
              go_at_call 15
              refine Calls.mono (HC1.out _) ?_
              rintro e w1_4 ⟨rfl, hcb⟩
              have q2 := q2.below hcb q2.lt
              refine hK.out _ _ (⟨hS.1.below hcb hS.1.lt, hS.2.1.below hcb hS.2.1.lt, hS.2.2.1.below hcb hS.2.2.1.lt, hS.2.2.2.trans (hcb.mono hS.2.2.2.size)⟩) fun hS => ?_
              try simp only [Act.put, List.getElem_toArray, List.getElem_cons_zero, List.getElem_cons_succ, List.setIfInBounds_toArray, List.set_cons_zero, List.set_cons_succ]
              clear hcb
              refine wpAnyH_ready (rs := [0]) (by kernel_rfl) (by simp) ?_
              refine AllReadyH.cons rfl (fun K hK => ?_) AllReadyH.nil
              refine step_load rfl 27 (.tmp 7) rfl gw2 rfl 27 (bs M) q2 256 5 Try.underlying27 size27 hMb (hK.out _ _ hS fun hS => ?_)
              try simp only [Act.put, List.getElem_toArray, List.getElem_cons_zero, List.getElem_cons_succ, List.setIfInBounds_toArray, List.set_cons_zero, List.set_cons_succ]
              refine wpAnyH_ready (rs := [5]) (by kernel_rfl) (by simp) ?_
              refine AllReadyH.cons rfl (fun K hK => ?_) AllReadyH.nil
              go_simp
              go_at_call 14
              refine Calls.mono (HL1.out _) ?_
              rintro e w3_5 ⟨rfl, hcb⟩
              have q2 := q2.below hcb q2.lt
              refine hK.out _ _ (⟨hS.1.below hcb hS.1.lt, hS.2.1.below hcb hS.2.1.lt, hS.2.2.1.below hcb hS.2.2.1.lt, hS.2.2.2.trans (hcb.mono hS.2.2.2.size)⟩) fun hS => ?_
              try simp only [Act.put, List.getElem_toArray, List.getElem_cons_zero, List.getElem_cons_succ, List.setIfInBounds_toArray, List.set_cons_zero, List.set_cons_succ]
              clear hcb
              refine wpAnyH_ready (rs := [6]) (by kernel_rfl) (by simp) ?_
              refine AllReadyH.cons rfl (fun K hK => ?_) AllReadyH.nil
              refine step_cells rfl 27 (.tmp 7) (.tmp 59) rfl gw2 (bs M2) rfl rfl 27 _ q2 256 size27 hMb hM2b (bs_one _) (hK.out _ _ ⟨hS.1.other (by omega) _, hS.2.1.other (by omega) _, hS.2.2.1.other (by omega) _, below_setRow hS.2.2.2 (by omega) _⟩ fun hS => ?_)
              try simp only [Act.put, List.getElem_toArray, List.getElem_cons_zero, List.getElem_cons_succ, List.setIfInBounds_toArray, List.set_cons_zero, List.set_cons_succ]
              have q2 := q2.set (bs M2)
              generalize w3_5.setRow gw2 (bs M2) = w4_6 at q2 hS ⊢
              refine wpAnyH_done (by kernel_rfl) ?_ _
              go_wp2
              go_roundw
              case rel => exact ⟨k + 1, by omega, by go_num, by rw [HM2.out]; exact q2, hS.1, hS.2.1, hS.2.2.1, hS.2.2.2⟩
              case measure => simp [intOf]; omega
            ) AllReadyH.nil))
          · rw [if_neg hcb] at hbit
            have HM1 : Hid (Sl.mix c A B k = Sl.mix c A B (k + 1)) := (mix_no c A B k hcb).symm
            clear hcb
            go_wp2
            go_roundw
            case rel => exact ⟨k + 1, by omega, by go_num, by rw [← HM1.out]; exact q2, q3, r0, r1, ab⟩
            case measure => simp [intOf]; omega
        · obtain rfl : k = 4 := by omega
          have HML := show Hid _ from Sl.mix_length c A B HAL.out HBL.out 4 (by omega)
          have HU2 : Hid _ := fun w => unpack_any (Sl.mix c A B 4) w HML.out (Sl.mix_bytes c A B HAL.out HBL.out HYA.out HYB.out)
          have HN0 : Hid (c % 16 = 0 → Sl.mix c A B 4 = A) := fun h => Sl.mix_none c A B HAL.out HBL.out h
          have HN15 : Hid (c % 16 = 15 → Sl.mix c A B 4 = B) := fun h => Sl.mix_all c A B HAL.out HBL.out h
          have tm : ((c : Int)).tmod 16 = ((c % 16 : Nat) : Int) := by rw [Int.tmod_eq_emod_of_nonneg (by omega)]; simp
          generalize Sl.mix c A B 4 = M at q2 HML HU2 HN0 HN15 HMX
          have hMb : (bs M).size = 256 := by rw [bs_size, HML.out]
          obtain ⟨ge, gn, go, gs, hg⟩ := gotC_is M
          rw [hg] at HU2
          have HG : Hid _ := hg
          clear hg
          have HI : Hid (isB M = isB M) := rfl
          obtain ⟨I, HII⟩ : ∃ I, Hid (isB M = I) := ⟨_, rfl⟩
          rw [HII.out] at HU2
          go_upto_region 14 with (first
            | (refine load_row rfl 27 (.tmp 7) rfl gw2 rfl 27 (bs M) q2 256 5 Try.underlying27 size27 hMb ?_)
            | (go_at_call 11; refine (HU2.out _).mono ?_; clear HU2; rintro ex w5 ⟨rfl, h5⟩
               have q5 : Row (w5.alloc (.cells #[.int .u32 0, .int .u32 0, .int .u64 0, .string ByteArray.empty] 25)) w5.heap.size #[.int .u32 0, .int .u32 0, .int .u64 0, .string ByteArray.empty] 25 := Row.new _ _ _)
            | (refine store_cells rfl 25 (.tmp 14) (.tmp 63) rfl w5.heap.size #[.int .u32 ge, .int .u32 gn, .int .u64 go, .string gs] rfl rfl 25 _ q5 4 size25 rfl rfl (by simp [Value.oneCell']) ?_))
          have r0 := r0.below h5 r0.lt
          have r1 := r1.below h5 r1.lt
          have lw5 := r1.lt
          have ab := ab.trans (h5.mono ab.size)
          have r0 := (r0.alloc (.cells #[.int .u32 0, .int .u32 0, .int .u64 0, .string ByteArray.empty] 25)).other (g := w5.heap.size) (by omega) #[.int .u32 ge, .int .u32 gn, .int .u64 go, .string gs]
          have r1 := (r1.alloc (.cells #[.int .u32 0, .int .u32 0, .int .u64 0, .string ByteArray.empty] 25)).other (g := w5.heap.size) (by omega) #[.int .u32 ge, .int .u32 gn, .int .u64 go, .string gs]
          have q5 := q5.set #[.int .u32 ge, .int .u32 gn, .int .u64 go, .string gs]
          have ab := below_setRow (ab.alloc ab.size (.cells #[.int .u32 0, .int .u32 0, .int .u64 0, .string ByteArray.empty] 25)) ab.size #[.int .u32 ge, .int .u32 gn, .int .u64 go, .string gs]
          clear h5
          generalize (w5.alloc (.cells #[.int .u32 0, .int .u32 0, .int .u64 0, .string ByteArray.empty] 25)).setRow w5.heap.size #[.int .u32 ge, .int .u32 gn, .int .u64 go, .string gs] = w5x at r0 r1 q5 ab ⊢
          generalize w5.heap.size = gw5 at q5 lw5 ⊢
          clear q2 q3 HML hMb
          by_cases h0 : c % 16 = 0
          · have hM := HN0.out h0
            obtain rfl : I = true := by rw [← HII.out, hM]; exact HIA.out.1
            have hgc := HG.out
            rw [hM, HIA.out.2] at hgc
            simp only [Array.mk.injEq, List.cons.injEq, Value.int.injEq, Value.string.injEq, true_and, and_true] at hgc
            obtain ⟨rfl, rfl, rfl, rfl⟩ := hgc
            rw [h0] at tm
            clear h0 hM HIA HIB HN0 HN15 HMX HG HII
            have t1 : Hid (1 = 1) := rfl
            have t2 : Hid (1 = 1) := rfl
            go_wp2_with (first
              | (have hh := t1; clear hh t1; refine load_cells_g rfl 25 (.tmp 14) rfl gw5 rfl 25 #[.int .u32 e, .int .u32 n, .int .u64 o, .string s] q5 4 Try.underlying25 rfl size25 rfl ?_)
              | (have hh := t2; clear hh t2; refine load_cells_g rfl 25 (.tmp 3) rfl w.heap.size rfl 25 #[.int .u32 e, .int .u32 n, .int .u64 o, .string s] r0 4 Try.underlying25 rfl size25 rfl ?_)
              | (go_at_call 13; refine (HAW.out _).mono ?_; clear HAW; rintro ex w6 ⟨rfl, h6⟩))
            go_ret
            exact ⟨rfl, ab.trans (h6.mono ab.size)⟩
          · by_cases h15 : c % 16 = 15
            · have hM := HN15.out h15
              obtain rfl : I = true := by rw [← HII.out, hM]; exact HIB.out.1
              have hgc := HG.out
              rw [hM, HIB.out.2] at hgc
              simp only [Array.mk.injEq, List.cons.injEq, Value.int.injEq, Value.string.injEq, true_and, and_true] at hgc
              obtain ⟨rfl, rfl, rfl, rfl⟩ := hgc
              rw [h15] at tm
              have heq2 := fun w => equal25 e2 n2 o2 e2 n2 o2 s2 s2 w
              simp only [decide_true, Bool.and_true] at heq2
              clear h0 h15 hM HIA HIB HN0 HN15 HMX HG HII
              have t1 : Hid (1 = 1) := rfl
              have t2 : Hid (1 = 1) := rfl
              go_wp2_with (first
                | (have hh := t1; clear hh t1; refine load_cells_g rfl 25 (.tmp 14) rfl gw5 rfl 25 #[.int .u32 e2, .int .u32 n2, .int .u64 o2, .string s2] q5 4 Try.underlying25 rfl size25 rfl ?_)
                | (have hh := t2; clear hh t2; refine load_cells_g rfl 25 (.tmp 4) rfl (w.heap.size + 1) rfl 25 #[.int .u32 e2, .int .u32 n2, .int .u64 o2, .string s2] r1 4 Try.underlying25 rfl size25 rfl ?_)
                | (go_at_call 13; refine (HAW.out _).mono ?_; clear HAW; rintro ex w6 ⟨rfl, h6⟩))
              go_ret
              exact ⟨rfl, ab.trans (h6.mono ab.size)⟩
            · have x0 := row_at r0 0 _ rfl
              have x1 := row_at r0 1 _ rfl
              have y0 := row_at r1 0 _ rfl
              have y1 := row_at r1 1 _ rfl
              obtain ⟨m, HM⟩ : ∃ m : Int, Hid (((c % 16 : Nat) : Int) = m) := ⟨_, rfl⟩
              have f0 : (m == 0) = false := by rw [← HM.out]; simp; omega
              have f15 : (m == 15) = false := by rw [← HM.out]; simp; omega
              rw [HM.out] at tm
              cases I
              · clear h0 h15
                go_wp2
                go_ret
                exact ⟨rfl, ab⟩
              · have hs : e = e2 ∧ n = n2 := by
                  apply Classical.byContradiction
                  intro q
                  have := HMX.out h0 h15 q
                  rw [HII.out] at this
                  cases this
                obtain ⟨rfl, rfl⟩ := hs
                clear h0 h15
                go_wp2
                go_ret
                exact ⟨rfl, ab⟩

set_option maxRecDepth 100000 in
theorem lifted (os : Os) (started : os.Started) (H : Type) (enc : TypeId × Value → H) :
    ReturnsInHanded {} Try.checked os 4 .any (Rows.ringBackSpec.pre6 enc Try.prog Try.f4 Rows.ringBackRow.domain false) (Rows.ringBackSpec.post enc Try.prog Try.f4 false true false false) := by
  refine returnsInHanded_of_change_sized (C := Try.checked) own started (by kernel_rfl) Try.func4
    (ChangeSpec.witness6 (enc := enc) (C := Try.checked) false ⟨#[], #[.agg #[.int .u32 0, .int .u32 0, .int .u64 0, .string ByteArray.empty], .agg #[.int .u32 0, .int .u32 0, .int .u64 0, .string ByteArray.empty], .int .u8 0], []⟩ 8 (by kernel_rfl) (by kernel_rfl) (by kernel_rfl) (by kernel_rfl)) ?_
  intro W base args ds gs before hval0 hW hcnd hsz0 _
  have hval : ∀ (j : Nat) t v, Try.f4.params[j]? = some t → args[j]? = some v → Value.okWide Try.prog W .any base t v := hval0
  have hW' := hW
  obtain ⟨p, q, hA0, hV, rfl, hfz, hnd⟩ := hW
  have hA : DataW.TrodAll enc Try.prog W 0 (fun _ => true) true Try.f4.params.toList args.toList ds p := hA0
  have hsz : (DataW.weightsEach Try.prog (Try.f4.params.toList ++ []) (ds ++ gs)).all (· ≤ reachBytes) = true := hsz0
  rw [Try.params4] at hA hval hsz
  obtain ⟨v0, vs0, d0, ds0, p0, q0, hargs, rfl, rfl, h0, r0⟩ := trodAll_cons hA
  obtain ⟨v1, vs1, d1, ds1, p1, q1, rfl, rfl, rfl, h1, r1⟩ := trodAll_cons r0
  obtain ⟨v2, vs2, d2, ds2, p2, q2, rfl, rfl, rfl, h2, r2⟩ := trodAll_cons r1
  obtain ⟨rfl, rfl, rfl⟩ := trodAll_nil r2
  obtain rfl : args = #[v0, v1, v2] := by cases args; simp_all
  obtain ⟨rfl, rfl⟩ := trodVars_none hV
  simp only [List.append_nil] at hsz
  have hlt : ∀ x ∈ (p0 ++ (p1 ++ (p2 ++ []))), x.block < W.heap.size := fun x hx => hW'.lt x (by simpa using hx)
  have hw0 : (d0.weights Try.prog 25).all (· ≤ reachBytes) = true := List.all_eq_true.2 fun m hm => List.all_eq_true.1 hsz m (by simp [DataW.weightsEach, hm])
  have hw1 : (d1.weights Try.prog 25).all (· ≤ reachBytes) = true := List.all_eq_true.2 fun m hm => List.all_eq_true.1 hsz m (by simp [DataW.weightsEach, hm])
  have hw2 : (d2.weights Try.prog 5).all (· ≤ reachBytes) = true := List.all_eq_true.2 fun m hm => List.all_eq_true.1 hsz m (by simp [DataW.weightsEach, hm])
  have k0 := h0
  have k1 := h1
  have k2 := h2
  obtain ⟨a0, c0, l0, m0, rfl, w0⟩ := open_chunkv (hval 0 25 v0 rfl rfl) h0
  obtain ⟨a1, c1, l1, m1, rfl, w1⟩ := open_chunkv (hval 1 25 v1 rfl rfl) h1
  obtain ⟨a2, rfl, rfl, rfl, w2⟩ := open_int Try.underlying5 (hval 2 5 v2 rfl rfl) h2
  clear hA0 hval0
  simp only [List.append_nil] at hW'
  refine (walk W a0 c0 l0 m0 a1 c1 l1 m1 a2 w0 w1 w2).mono fun e W' ⟨he, hg⟩ => ?_
  subst he
  exact ⟨_, rfl, ⟨_, _, _, [], (p0 ++ (p1 ++ ([] ++ []))), [], hW', (trodAll_cons_mk (shut_bool Try.underlying4 _) trodAll_mk0), (trodAll_cons_mk (Below.trod laidOut (by kernel_rfl) (of_decide_eq_true (by kernel_rfl)) k0 hg (fun x hx => hlt x (by simp [hx]))) (trodAll_cons_mk (Below.trod laidOut (by kernel_rfl) (of_decide_eq_true (by kernel_rfl)) k1 hg (fun x hx => hlt x (by simp [hx]))) (trodAll_cons_mk (Below.trod laidOut (by kernel_rfl) (of_decide_eq_true (by kernel_rfl)) k2 hg (fun x hx => (nomatch hx))) trodAll_mk0))), rfl,
    hg.frame _, fun h => by cases h⟩⟩

theorem over : Rows.ringBackRow.holds Try.pinned (OpenSpec.ofChange Rows.ringBackSpec) :=
  OpenClaim.holds_of_wide 4 Try.f4 rfl rfl rfl rfl rfl rfl rfl ⟨rfl, rfl, rfl, rfl, rfl⟩ rfl rfl rfl rfl rfl (by kernel_rfl) Try.func4 (by kernel_rfl)
    (of_decide_eq_true (by kernel_rfl)) (by unfold Func.isWrapper; first | (rw [if_pos (by decide +kernel)]; kernel_rfl) | (rw [if_neg (by decide +kernel)]; exact ⟨rfl, rfl⟩))
    (fun os started H enc _ => lifted os started H enc)

/-- The statement. -/
theorem proved : Rows.RingBackSaid :=
  over
#print axioms proved
end Go.Proofs.Ytbpaffjoedihbaa.ringBack
