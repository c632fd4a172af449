/-
  Proved here: CacheTorn, the walk.
-/
import Derived.Test.YtehogiondcpbcaaJq36
namespace Go.Proofs.Ytehogiondcpbcaa
open Go.ChangeShapes Go.WideShapes Go.ChangeAt Go.RowKit
set_option linter.unusedVariables false
set_option linter.unusedSimpArgs false
set_option maxRecDepth 20000
set_option maxHeartbeats 4000000 in
theorem torn_true (w : World) (k : Int) (b : List Int) (hk : 0 ≤ k ∧ k ≤ 65535) (hb : b.length = 256) (hy : Bytes b) : Calls Try.prog 7 #[.agg #[.bool true, .int .u16 k], .agg (bs b)] w fun e w' => e = .returned (.bool true) ∧ Below w.heap.size w w' := by
  obtain ⟨PP, HPP⟩ : ∃ PP : Ending → World → Prop, Hid (PP = fun e w' => e = .returned (.bool true) ∧ Below w.heap.size w w') := ⟨_, rfl⟩
  rw [← HPP.out]
  have HKW : Hid (WfU k) := wfu_mk hk
  have HKR : Hid (0 ≤ k ∧ k ≤ 65535) := hk
  have HBN : Hid (b.length = 256) := hb
  have HBY : Hid (Bytes b) := hy
  have HBS : Hid ((bs b).size = 256) := by rw [bs_size]; exact hb
  obtain ⟨BB, HBB⟩ : ∃ BB, Hid (bs b = BB) := ⟨_, rfl⟩
  rw [HBB.out] at HBS ⊢
  have hz34 := zero34
  obtain ⟨ZP, HZPD⟩ : ∃ ZP, Hid (bs (zs 224) = ZP) := ⟨_, rfl⟩
  have HZP : Hid (ZP.size = 224) := by rw [← HZPD.out, bs_size]; exact zs_length _
  have hzo : ZP.all (·.oneCell') = true := by rw [← HZPD.out]; exact bs_one _
  rw [HZPD.out] at hz34
  have e1 : (w.alloc (.cells #[.bool true, .int .u16 k] 31)).heap.size = w.heap.size + 1 := Array.size_push ..
  have ab0 : Below w.heap.size w (w.alloc (.cells #[.bool true, .int .u16 k] 31)) := (Below.refl _ _).alloc (Nat.le_refl _) _
  have ab : Below w.heap.size w ((w.alloc (.cells #[.bool true, .int .u16 k] 31)).alloc (.cells BB 41)) := ab0.alloc ab0.size _
  have r0 : Row ((w.alloc (.cells #[.bool true, .int .u16 k] 31)).alloc (.cells BB 41)) w.heap.size #[.bool true, .int .u16 k] 31 := (Row.new _ _ _).alloc _
  have r1 : Row ((w.alloc (.cells #[.bool true, .int .u16 k] 31)).alloc (.cells BB 41)) (w.heap.size + 1) BB 41 := by have := Row.new (w.alloc (.cells #[.bool true, .int .u16 k] 31)) BB 41; rw [e1] at this; exact this
  have hov := over_any 4 (by omega) ((w.alloc (.cells #[.bool true, .int .u16 k] 31)).alloc (.cells BB 41))
  clear hk hb hy ab0
  go_enter Try.func7, Try.ntmps7
  go_upto_region 1 with fail
  generalize ((w.alloc (.cells #[.bool true, .int .u16 k] 31)).alloc (.cells BB 41)) = W0 at r0 r1 ab hov ⊢
  have HAB : Hid (Below w.heap.size w W0) := ab
  obtain ⟨A2, HA2⟩ : ∃ A2, Hid (w.heap.size = A2) := ⟨_, rfl⟩
  obtain ⟨A3, HA3⟩ : ∃ A3, Hid (w.heap.size + 1 = A3) := ⟨_, rfl⟩
  rw [HA3.out] at r1
  try rw [e1]
  try rw [HA3.out]
  rw [HA2.out] at r0 ⊢
  clear e1 ab
  have HN2 : Hid (∀ F : Nat → Prop, (∀ j, F j → W0.heap.size ≤ j) → ¬ F A2) := fun F h q => by have := h A2 q; have := r0.lt; omega
  have HN3 : Hid (∀ F : Nat → Prop, (∀ j, F j → W0.heap.size ≤ j) → ¬ F A3) := fun F h q => by have := h A3 q; have := r1.lt; omega
  go_upto_region 4 with (first
    | (have hh := hov; clear hh; go_at_call 8; refine Calls.mono hov ?_; clear hov; rintro e W1 ⟨gd, gl, gc, gk, ak, F1, he, hb1, c1, hF1⟩; obtain rfl := he; have hc1 : CS W0 F1 gc gd gl gk ak (newC 4 5 4) log0 (Dsk.new 60) 0 0 W1 := ⟨hb1, c1, hF1⟩; have rr1 := r0.below hb1 r0.lt; have r3 := r1.below hb1 r1.lt))
  clear r0 r1 c1 hF1 hb1
  have q0 := row_at rr1 0 _ rfl
  have q1 := row_at rr1 1 _ rfl
  have HC1 : Hid (CS W0 F1 gc gd gl gk ak (newC 4 5 4) log0 (Dsk.new 60) 0 0 W1) := hc1
  have HR1 : Hid (Row W1 A2 #[.bool true, .int .u16 k] 31 ∧ Row W1 A3 BB 41) := ⟨rr1, r3⟩
  by_cases hge : k ≥ 5
  · have hD : decide (k ≥ 5) = true := decide_eq_true hge
    have hci : isC (newC 4 5 4) true k = false := by show decide (k < ((5 : Nat) : Int)) = false; exact decide_eq_false (by omega)
    have hf1 : Calls Try.prog 16 #[.pointer (some ⟨gc, 0, none⟩), .agg #[.bool true, .int .u16 k]] W1 fun e w' => Tf1 W0 F1 W1 gc gd gl gk ak ZP e w' := by
      refine (fetch_any hc1.2.1 true k HKW.out log0_inv (by decide) (by decide) (flush_ops log0_inv _) (by decide) (by decide)).mono ?_
      rintro e w' ⟨p, E, s1, l1, d1, hf, he, hst⟩
      obtain ⟨rfl, rfl, rfl, rfl, rfl⟩ := none_fetch hci hf
      obtain ⟨F', k1, k2⟩ := hc1.step hst
      exact ⟨F', by rw [he, HZPD.out], k1, k2⟩
    have HRS : Hid (∀ F' W, CS W0 F' gc gd gl gk ak (newC 4 5 4) log0 (Dsk.new 60) 1 4004 W → Calls Try.prog 23 #[.pointer (some ⟨gc, 0, none⟩), .agg #[.bool true, .int .u16 k]] W fun e w' => e = .returned (.bool false) ∧ Below W.heap.size W w') := fun F' W h => by
      obtain ⟨fv, m, n, vl, vs, L, cA, _⟩ := h.2.1.ex
      exact resident_any cA true k HKW.out
    clear hc1 r3 hci
    have tl1 : Hid (1 = 1) := rfl
    have tl4 : Hid (1 = 1) := rfl
    have ts : Hid (1 = 1) := rfl
    go_upto_region 6 with (first
      | (have hh := tl1; clear hh tl1; refine load_cells rfl 31 (.tmp 2) rfl A2 rfl 31 #[.bool true, .int .u16 k] rr1 2 Try.underlying31 rfl size31 rfl ?_)
      | (have hh := hf1; clear hh; go_at_call 16; refine Calls.mono hf1 ?_; clear hf1; rintro e W2 ⟨F2, he, hc2, tr2⟩; obtain rfl := he; have rr2 := HR1.out.1.off tr2.1 (HN2.out F1 HC1.out.2.2); have l8 : CLoc F2 (W2.alloc (.cells ZP 34)) W2.heap.size ZP 34 := hc2.newLoc _ _)
      | (have hh := ts; clear hh ts; refine store_cells rfl 34 (.tmp 8) (.tmp 45) rfl W2.heap.size ZP rfl rfl 34 _ l8.1 224 size34 HZP.out HZP.out hzo ?_))
    have hc3 := (hc2.alloc (.cells ZP 34)).row l8 hc2.1.size ZP
    have rr4 := ((rr2.alloc (.cells ZP 34)).other (g := W2.heap.size) (by have := rr2.lt; omega) ZP)
    clear hc2 l8 rr2 rr1 q0 q1
    generalize (W2.alloc (.cells ZP 34)).setRow W2.heap.size ZP = W3 at hc3 rr4 ⊢
    have hrs := HRS.out F2 W3 hc3
    go_wp2_with (first
      | (have hh := tl4; clear hh tl4; refine load_cells_g (by rfl) 31 (.tmp 2) rfl A2 rfl 31 #[.bool true, .int .u16 k] rr4 2 Try.underlying31 rfl size31 rfl ?_)
      | (have hh := hrs; clear hh; go_at_call 23; refine Calls.mono hrs ?_; clear hrs; rintro e W4 ⟨he, hb4⟩; obtain rfl := he; have hc4 := hc3.below hb4; have haw := awake_any W4)
      | (have hh := haw; clear hh; go_at_call 14; refine Calls.mono haw ?_; clear haw; rintro e W5 ⟨he, hb5⟩; obtain rfl := he; have hbw := hc4.1.trans (hb5.mono hc4.1.size)))
    rw [HPP.out]
    exact ⟨rfl, HAB.out.trans (hbw.mono HAB.out.size)⟩
  · have hD : decide (k ≥ 5) = false := decide_eq_false hge
    have hci : isC (newC 4 5 4) true k = true := by show decide (k < ((5 : Nat) : Int)) = true; exact decide_eq_true (by omega)
    have HIC : Hid (isC (newC 4 5 4) true k = true) := hci
    have hple : placeC 4 true k = 2 + 4 + k := rfl
    have HPLR : Hid (0 ≤ placeC 4 true k ∧ placeC 4 true k < 60) := by have := HKR.out; show _ ∧ _; rw [hple]; omega
    have hpl : Calls Try.prog 29 #[.int .i64 4, .agg #[.bool true, .int .u16 k]] W1 fun e w' => e = .returned (.int .i64 (6 + k)) ∧ Below W1.heap.size W1 w' := by
      have := cplace_any 4 (by omega) true k HKW.out W1
      have e : placeC 4 true k = 6 + k := by rw [hple]; try omega
      rw [e] at this
      exact this
    have HWR : Hid (∀ W, CS W0 F1 gc gd gl gk ak (newC 4 5 4) log0 (Dsk.new 60) 0 0 W → Calls Try.prog 30 #[.pointer (some ⟨gd, 0, none⟩), .int .i64 (6 + k), .agg BB] W fun e w' => e = .returned (.int .i64 0) ∧ CStep W F1 gc gd gl gk ak (newC 4 5 4) log0 (((Dsk.new 60).tick 1).wrote (placeC 4 true k) b 4) 0 4 w') := fun W h => by
      have := CL.write h.2.1 (by decide) (placeC 4 true k) b HBN.out HBY.out (by decide)
      rw [writ_well (new_well 60) _ HPLR.out b] at this
      have e : placeC 4 true k = 6 + k := by rw [hple]; try omega
      rw [HBB.out] at this
      rw [← e]
      exact this
    have hw1 : IntKind.i64.wrap k = k := by have := HKR.out; rw [IntKind.wrap_i64]; omega
    have hw2 : IntKind.i64.wrap (2 + k) = 2 + k := by have := HKR.out; rw [IntKind.wrap_i64]; omega
    have hw6 : IntKind.i64.wrap (6 + k) = 6 + k := by have := HKR.out; rw [IntKind.wrap_i64]; omega
    have hne : ((6 + k != 2 + k) = true) := by simp
    have hop : ∀ W, Calls Try.prog 10 #[.agg BB] W fun e w' => e = .returned (.tuple #[.int .u64 (if wholeB b = true then Sl.stampAt b 0 else 0), .agg (bs (if wholeB b = true then Sl.payN b 4 else zs 224)), .bool (wholeB b)]) ∧ Below W.heap.size W w' := fun W => by
      have := Sl.open_any b HBN.out HBY.out W
      unfold Sl.opened at this
      rw [← HBB.out]
      unfold wholeB
      by_cases q : Sl.stampAt b 1 = Sl.stampAt b 0 ∧ Sl.stampAt b 2 = Sl.stampAt b 0 ∧ Sl.stampAt b 3 = Sl.stampAt b 0
      · rw [if_pos q] at this
        rw [decide_eq_true q, if_pos rfl, if_pos rfl]
        exact this
      · rw [if_neg q] at this
        rw [decide_eq_false q, if_neg (by simp), if_neg (by simp)]
        exact this
    obtain ⟨PQ, HPQ⟩ : ∃ PQ, Hid (bs (if wholeB b = true then Sl.payN b 4 else zs 224) = PQ) := ⟨_, rfl⟩
    have HPQS : Hid (PQ.size = 224) := by rw [← HPQ.out, bs_size]; split; exact Sl.payN_length _ _; exact zs_length _
    have hpqo : PQ.all (·.oneCell') = true := by rw [← HPQ.out]; exact bs_one _
    obtain ⟨bw, HBW⟩ : ∃ bw, Hid (wholeB b = bw) := ⟨_, rfl⟩
    obtain ⟨SV, HSV⟩ : ∃ SV, Hid ((if wholeB b = true then Sl.stampAt b 0 else 0) = SV) := ⟨_, rfl⟩
    rw [HPQ.out, HSV.out, HBW.out] at hop
    have HOPN : Hid _ := hop
    clear hci hc1 r3 hop hple
    have tl1 : Hid (1 = 1) := rfl
    have tl41 : Hid (1 = 1) := rfl
    have tl42 : Hid (1 = 1) := rfl
    have ts : Hid (1 = 1) := rfl
    go_upto_region 10 with (first
      | (have hh := tl1; clear hh tl1; refine load_cells rfl 31 (.tmp 2) rfl A2 rfl 31 #[.bool true, .int .u16 k] rr1 2 Try.underlying31 rfl size31 rfl ?_)
      | (have hh := hpl; clear hh; go_at_call 29; refine Calls.mono hpl ?_; clear hpl; rintro e W2 ⟨he, hb2⟩; obtain rfl := he; have hc2 := HC1.out.below hb2; have rr2 := HR1.out.1.below hb2 HR1.out.1.lt; have r32 := HR1.out.2.below hb2 HR1.out.2.lt; have q0 := row_at rr2 0 _ rfl; have q1 := row_at rr2 1 _ rfl; have hwr := HWR.out W2 hc2)
      | (have hh := tl41; clear hh tl41; refine load_cells_g (by rfl) 41 (.tmp 3) rfl A3 rfl 41 BB r32 256 Try.underlying41 rfl size41 HBS.out ?_)
      | (have hh := hwr; clear hh; go_at_call 30; refine Calls.mono hwr ?_; clear hwr; rintro e W3 ⟨he, hst3⟩; obtain rfl := he))
    obtain ⟨F3, hc3, tr3⟩ := hc2.step hst3
    have rr3 := rr2.off tr3.1 (HN2.out F1 HC1.out.2.2)
    have r33 := r32.off tr3.1 (HN3.out F1 HC1.out.2.2)
    have hop := HOPN.out W3
    clear hst3 tr3 rr2 r32 hc2 q0 q1 rr1 hne hw2 hw6 hw1
    go_upto_region 11 with (first
      | (have hh := tl42; clear hh tl42; refine load_cells rfl 41 (.tmp 3) rfl A3 rfl 41 BB r33 256 Try.underlying41 rfl size41 HBS.out ?_)
      | (have hh := hop; clear hh; go_at_call 10; refine Calls.mono hop ?_; clear hop; rintro e W4 ⟨he, hb4⟩; obtain rfl := he; have hc4 := hc3.below hb4; have rr4 := rr3.below hb4 rr3.lt; have l12 : CLoc F3 (W4.alloc (.cells ZP 34)) W4.heap.size ZP 34 := hc4.newLoc _ _)
      | (have hh := ts; clear hh ts; refine store_cells rfl 34 (.tmp 12) (.tmp 94) rfl W4.heap.size PQ rfl rfl 34 _ l12.1 224 size34 HZP.out HPQS.out hpqo ?_))
    have hc5 := (hc4.alloc (.cells ZP 34)).row l12 hc4.1.size PQ
    have rr5 := ((rr4.alloc (.cells ZP 34)).other (g := W4.heap.size) (by have := rr4.lt; omega) PQ)
    have l125 := l12.set PQ
    have HLT : Hid (A2 < W4.heap.size) := rr4.lt
    clear hc3 hc4 l12 rr4 rr3 r33 hb4
    generalize (W4.alloc (.cells ZP 34)).setRow W4.heap.size PQ = W5 at hc5 rr5 l125 ⊢
    generalize W4.heap.size = A12 at l125 HLT ⊢
    have HC5 : Hid (CS W0 F3 gc gd gl gk ak (newC 4 5 4) log0 (((Dsk.new 60).tick 1).wrote (placeC 4 true k) b 4) 0 4 W5) := hc5
    have HR5 : Hid (Row W5 A2 #[.bool true, .int .u16 k] 31 ∧ CLoc F3 W5 A12 PQ 34) := ⟨rr5, l125⟩
    have HWL : Hid (Well (((Dsk.new 60).tick 1).wrote (placeC 4 true k) b 4) 60 1) := ((new_well 60).tick).wrote _ _
    have HFE : Hid (∀ W, Below W5.heap.size W5 W → Calls Try.prog 16 #[.pointer (some ⟨gc, 0, none⟩), .agg #[.bool true, .int .u16 k]] W fun e w' => Tf2 W0 F3 W gc gd gl gk ak true k b e w') := fun W hb => by
      have hc6 := HC5.out.below hb
      refine (fetch_any hc6.2.1 true k HKW.out log0_inv (by decide) (by show (1 : Int) + 4000 < _; omega) (flush_ops log0_inv _) (by decide) (by decide)).mono ?_
      rintro e w' ⟨p, E, s1, l1, d1, hf, he, hst⟩
      obtain ⟨rfl, rfl, rfl, h4, h5⟩ := first_fetch (by omega) HWL.out HPLR.out (wrote_seen _ _ _ HBN.out) HIC.out hf
      obtain ⟨F', k1, k2⟩ := hc6.step hst
      exact ⟨F', s1, d1, he, k1, k2, h4, h5⟩
    have HFL : Hid (∀ W, Calls Try.prog 19 #[.agg #[.bool true, .int .u16 k], .int .u8 1, .int .u64 0] W fun e w' => e = .returned (.agg (bs (fillP true k 1 0))) ∧ Below W.heap.size W w') := fun W => fill_any true k 1 0 HKW.out (by decide) (by decide) W
    obtain ⟨PF, HPF⟩ : ∃ PF, Hid (bs (fillP true k 1 0) = PF) := ⟨_, rfl⟩
    rw [HPF.out] at HFL
    clear hc5 l125
    cases bw with
    | false =>
      have HOF : Hid (openF true k b = ⟨true, k, blankP true k, true, false, 0⟩) := by show _ = _; unfold openF; rw [if_neg (fun z => by rw [HBW.out] at z; simp at z)]
      go_upto_region 12 with fail
      have hfe := HFE.out W5 (Below.refl _ _)
      have rr6 := rr5
      have HB6 : Hid (Below W5.heap.size W5 W5) := Below.refl _ _
      obtain ⟨PX, HPXD⟩ : ∃ PX, Hid (bs (blankP true k) = PX) := ⟨_, rfl⟩
      have HPX : Hid (bs (openF true k b).p = PX) := by show _ = _; rw [HOF.out, ← HPXD.out]
      have HTN : Hid ((openF true k b).torn = true) := by show _ = _; rw [HOF.out]
      have HPXS : Hid (PX.size = 224) := by rw [← HPXD.out, bs_size]; exact blankP_length _ _
      have hpxo : PX.all (·.oneCell') = true := by rw [← HPXD.out]; exact bs_one _
      have HBK : Hid (∀ W, Calls Try.prog 33 #[.agg #[.bool true, .int .u16 k]] W fun e w' => e = .returned (.agg PX) ∧ Below W.heap.size W w') := fun W => by rw [← HPXD.out]; exact rblank_any true k W HKR.out
      have HEQX : Hid (∀ w, (Op.equalIn 10000 34 (.agg PX) (.agg PX)).run Try.prog w = .ok true w) := fun w => by
        have := equal34 (blankP true k) (blankP true k) (blankP_length _ _) (blankP_length _ _) w
        rw [HPXD.out] at this
        rw [this, decide_eq_true rfl]
      have tl6 : Hid (1 = 1) := rfl
      have ts : Hid (1 = 1) := rfl
      go_upto_region 13 with (first
        | (have hh := tl6; clear hh tl6; refine load_cells rfl 31 (.tmp 2) rfl A2 rfl 31 #[.bool true, .int .u16 k] rr6 2 Try.underlying31 rfl size31 rfl ?_)
        | (have hh := hfe; clear hh; go_at_call 16; refine Calls.mono hfe ?_; clear hfe; rintro e W7 ⟨F12, s1, d1, he, hc7, tr7, hs7, hp7⟩; rw [HPX.out] at he; obtain rfl := he; have rr7 := rr6.off tr7.1 (HN2.out F3 HC5.out.2.2); have l127 := (HR5.out.2.below HB6.out).tr tr7; have l15 : CLoc F12 (W7.alloc (.cells ZP 34)) W7.heap.size ZP 34 := hc7.newLoc _ _)
        | (have hh := ts; clear hh ts; refine store_cells rfl 34 (.tmp 15) (.tmp 106) rfl W7.heap.size PX rfl rfl 34 _ l15.1 224 size34 HZP.out HPXS.out hpxo ?_))
      have hc12 := (hc7.alloc (.cells ZP 34)).row l15 hc7.1.size PX
      have a2 := ((rr7.alloc (.cells ZP 34)).other (g := W7.heap.size) (by have := rr7.lt; omega) PX)
      have a12 := ((l127.1.alloc (.cells ZP 34)).other (g := W7.heap.size) (by have := l127.1.lt; omega) PX)
      have a15 := (l15.set PX).1
      have HS7 : Hid (s1.fs = [openF true k b] ∧ (s1.ck[0]?).map Cl.Fr.pins = some 1) := ⟨hs7, hp7⟩
      clear hc7 l15 rr7 l127 tr7 rr6 hs7 hp7 rr5
      generalize (W7.alloc (.cells ZP 34)).setRow W7.heap.size PX = W12 at hc12 a2 a12 a15 ⊢
      generalize W7.heap.size = A15 at a15 ⊢
      have HC12 : Hid (CS W0 F12 gc gd gl gk ak s1 log0 d1 1 4008 W12) := hc12
      have HON : Hid (putE s1 true k (fillP true k 1 0) = 0 ∧ putS s1 true k (fillP true k 1 0) = { s1 with fs := [putF (openF true k b) (fillP true k 1 0)] } ∧ tornC (putS s1 true k (fillP true k 1 0)) true k = false ∧ tornC s1 true k = true) := by
        have := one_put HS7.out.1 HS7.out.2 (p := fillP true k 1 0) (by rw [openF_un, openF_no]; exact fill_is true k 1 0 HKR.out (by decide) (by decide))
        rw [openF_un, openF_no, HTN.out] at this
        exact this
      have HTO : Hid (∀ W, Below W12.heap.size W12 W → Calls Try.prog 32 #[.pointer (some ⟨gc, 0, none⟩), .agg #[.bool true, .int .u16 k]] W fun e w' => e = .returned (.bool true) ∧ Below W.heap.size W w') := fun W hb => by
        obtain ⟨fv, m, n, vl, vs, L, cA, _⟩ := (HC12.out.below hb).2.1.ex
        have := torn_any cA HC12.out.2.1.ok true k HKW.out
        rw [HON.out.2.2.2] at this
        exact this
      have HPU : Hid (∀ W, CS W0 F12 gc gd gl gk ak s1 log0 d1 1 4008 W → Calls Try.prog 18 #[.pointer (some ⟨gc, 0, none⟩), .agg #[.bool true, .int .u16 k], .agg PF] W fun e w' => e = .returned (.int .i64 0) ∧ CStep W F12 gc gd gl gk ak (putS s1 true k (fillP true k 1 0)) log0 d1 1 4008 w') := fun W h => by
        have := cput_any h.2.1 true k HKW.out (fillP true k 1 0) (fillP_length _ _ _ _) (fillP_bytes _ _ _ _)
        rw [HON.out.1, HPF.out] at this
        exact this
      have HTP : Hid (∀ F' W, CS W0 F' gc gd gl gk ak (putS s1 true k (fillP true k 1 0)) log0 d1 1 4008 W → Calls Try.prog 32 #[.pointer (some ⟨gc, 0, none⟩), .agg #[.bool true, .int .u16 k]] W fun e w' => e = .returned (.bool false) ∧ Below W.heap.size W w') := fun F' W h => by
        obtain ⟨fv, m, n, vl, vs, L, cA, _⟩ := h.2.1.ex
        have := torn_any cA h.2.1.ok true k HKW.out
        rw [HON.out.2.2.1] at this
        exact this
      clear hc12
      refine wp_region_held_drew (S := fun w' => Row w' A2 #[.bool true, .int .u16 k] 31 ∧ Row w' A12 PQ 34 ∧ Row w' A15 PX 34 ∧ Below W12.heap.size W12 w') (by kernel_rfl) ⟨a2, a12, a15, (Below.refl _ _).drew⟩ fun hS => ?_
      clear a2 a12 a15
      refine tkH (i := 0) (v := .int .i64 0) rfl (by kernel_rfl) (fun _ _ _ h => h) (Or.inl ⟨by rfl, fun w _ => by go_simp⟩) hS ?_
      try simp only [Act.put, nz0, nz1, nz2, nz3, nz4, nz5]
      refine tkH (i := 1) (v := .bool false) rfl (by kernel_rfl) (fun _ _ _ h => h) (Or.inl ⟨by rfl, fun w _ => by go_simp⟩) hS ?_
      try simp only [Act.put, nz0, nz1, nz2, nz3, nz4, nz5]
      refine tkH (i := 2) (v := .bool false) rfl (by kernel_rfl) (fun _ _ _ h => h) (Or.inl ⟨by rfl, fun w _ => by go_simp⟩) hS ?_
      try simp only [Act.put, nz0, nz1, nz2, nz3, nz4, nz5]
      refine tkH (i := 3) (v := .pointer (some ⟨gc, 0, none⟩)) rfl (by kernel_rfl) (fun _ _ _ h => h) (Or.inl ⟨by rfl, fun w _ => by go_simp⟩) hS ?_
      try simp only [Act.put, nz0, nz1, nz2, nz3, nz4, nz5]
      refine tkH (i := 4) (v := .agg #[.bool true, .int .u16 k]) rfl (by kernel_rfl) (fun _ _ _ h => h) (yields_cells (by rfl) 31 (.tmp 2) rfl A2 rfl 31 #[.bool true, .int .u16 k] (fun w h => h.1) 2 Try.underlying31 rfl size31 rfl) hS ?_
      try simp only [Act.put, nz0, nz1, nz2, nz3, nz4, nz5]
      refine tkH (i := 6) (v := .bool false) rfl (by kernel_rfl) (fun _ _ _ h => h) (Or.inl ⟨by rfl, fun w _ => by go_simp⟩) hS ?_
      try simp only [Act.put, nz0, nz1, nz2, nz3, nz4, nz5]
      refine wpAnyH_ready (rs := [5]) (by kernel_rfl) (by simp) ?_
      refine AllReadyH.cons rfl (fun K hK => ?_) AllReadyH.nil
      go_simp
      go_at_call 32
      refine Calls.mono (HTO.out _ hS.2.2.2) ?_
      rintro e wc ⟨rfl, hcb⟩
      refine hK.out _ _ (⟨hS.1.below hcb hS.1.lt, hS.2.1.below hcb hS.2.1.lt, hS.2.2.1.below hcb hS.2.2.1.lt, hS.2.2.2.trans (hcb.mono hS.2.2.2.size)⟩) fun hS => ?_
      try simp only [Act.put, nz0, nz1, nz2, nz3, nz4, nz5]
      clear hcb
      refine tkH (i := 7) (v := .bool false) rfl (by kernel_rfl) (fun _ _ _ h => h) (Or.inl ⟨by rfl, fun w _ => by go_simp⟩) hS ?_
      try simp only [Act.put, nz0, nz1, nz2, nz3, nz4, nz5]
      refine tkH (i := 8) (v := .bool false) rfl (by kernel_rfl) (fun _ _ _ h => h) (Or.inl ⟨by rfl, fun w _ => by go_simp⟩) hS ?_
      try simp only [Act.put, nz0, nz1, nz2, nz3, nz4, nz5]
      refine tkH (i := 9) (v := .bool false) rfl (by kernel_rfl) (fun _ _ _ h => h) (Or.inl ⟨by rfl, fun w _ => by go_simp⟩) hS ?_
      try simp only [Act.put, nz0, nz1, nz2, nz3, nz4, nz5]
      refine tkH (i := 10) (v := .bool false) rfl (by kernel_rfl) (fun _ _ _ h => h) (Or.inl ⟨by rfl, fun w _ => by go_simp⟩) hS ?_
      try simp only [Act.put, nz0, nz1, nz2, nz3, nz4, nz5]
      refine tkH (i := 11) (v := .bool false) rfl (by kernel_rfl) (fun _ _ _ h => h) (Or.inl ⟨by rfl, fun w _ => by go_simp⟩) hS ?_
      try simp only [Act.put, nz0, nz1, nz2, nz3, nz4, nz5]
      refine tkH (i := 12) (v := undef) rfl (by kernel_rfl) (fun _ _ _ h => h) (Or.inr ⟨by rfl, rfl⟩) hS ?_
      try simp only [Act.put, nz0, nz1, nz2, nz3, nz4, nz5]
      refine tkH (i := 13) (v := undef) rfl (by kernel_rfl) (fun _ _ _ h => h) (Or.inr ⟨by rfl, rfl⟩) hS ?_
      try simp only [Act.put, nz0, nz1, nz2, nz3, nz4, nz5]
      refine tkH (i := 14) (v := undef) rfl (by kernel_rfl) (fun _ _ _ h => h) (Or.inr ⟨by rfl, rfl⟩) hS ?_
      try simp only [Act.put, nz0, nz1, nz2, nz3, nz4, nz5]
      refine tkH (i := 15) (v := .bool false) rfl (by kernel_rfl) (fun _ _ _ h => h) (Or.inl ⟨by rfl, fun w _ => by go_simp⟩) hS ?_
      try simp only [Act.put, nz0, nz1, nz2, nz3, nz4, nz5]
      refine tkH (i := 16) (v := .bool false) rfl (by kernel_rfl) (fun _ _ _ h => h) (Or.inl ⟨by rfl, fun w _ => by go_simp⟩) hS ?_
      try simp only [Act.put, nz0, nz1, nz2, nz3, nz4, nz5]
      refine tkH (i := 17) (v := .bool false) rfl (by kernel_rfl) (fun _ _ _ h => h) (Or.inl ⟨by rfl, fun w _ => by go_simp⟩) hS ?_
      try simp only [Act.put, nz0, nz1, nz2, nz3, nz4, nz5]
      refine tkH (i := 18) (v := .bool false) rfl (by kernel_rfl) (fun _ _ _ h => h) (Or.inl ⟨by rfl, fun w _ => by go_simp⟩) hS ?_
      try simp only [Act.put, nz0, nz1, nz2, nz3, nz4, nz5]
      refine tkH (i := 19) (v := .bool true) rfl (by kernel_rfl) (fun _ _ _ h => h) (Or.inl ⟨by rfl, fun w _ => by go_simp⟩) hS ?_
      try simp only [Act.put, nz0, nz1, nz2, nz3, nz4, nz5]
      refine tkH (i := 20) (v := .bool true) rfl (by kernel_rfl) (fun _ _ _ h => h) (Or.inl ⟨by rfl, fun w _ => by go_simp⟩) hS ?_
      try simp only [Act.put, nz0, nz1, nz2, nz3, nz4, nz5]
      refine tkH (i := 21) (v := .agg PX) rfl (by kernel_rfl) (fun _ _ _ h => h) (yields_cells (by rfl) 34 (.tmp 15) rfl A15 rfl 34 PX (fun w h => h.2.2.1) 224 Try.underlying34 rfl size34 HPXS.out) hS ?_
      try simp only [Act.put, nz0, nz1, nz2, nz3, nz4, nz5]
      refine tkH (i := 22) (v := .agg #[.bool true, .int .u16 k]) rfl (by kernel_rfl) (fun _ _ _ h => h) (yields_cells (by rfl) 31 (.tmp 2) rfl A2 rfl 31 #[.bool true, .int .u16 k] (fun w h => h.1) 2 Try.underlying31 rfl size31 rfl) hS ?_
      try simp only [Act.put, nz0, nz1, nz2, nz3, nz4, nz5]
      refine wpAnyH_ready (rs := [23]) (by kernel_rfl) (by simp) ?_
      refine AllReadyH.cons rfl (fun K hK => ?_) AllReadyH.nil
      go_simp
      go_at_call 33
      refine Calls.mono (HBK.out _) ?_
      rintro e w2_23 ⟨rfl, hcb⟩
      refine hK.out _ _ (⟨hS.1.below hcb hS.1.lt, hS.2.1.below hcb hS.2.1.lt, hS.2.2.1.below hcb hS.2.2.1.lt, hS.2.2.2.trans (hcb.mono hS.2.2.2.size)⟩) fun hS => ?_
      try simp only [Act.put, nz0, nz1, nz2, nz3, nz4, nz5]
      clear hcb
      refine tkH (i := 24) (v := .bool false) rfl (by kernel_rfl) (fun _ _ _ h => h) (yields_neq (by rfl) 34 34 (.tmp 129) (.tmp 131) rfl PX PX rfl rfl Try.eqGuardType34 true HEQX.out) hS ?_
      try simp only [Act.put, nz0, nz1, nz2, nz3, nz4, nz5]
      refine tkH (i := 25) (v := .bool false) rfl (by kernel_rfl) (fun _ _ _ h => h) (Or.inl ⟨by rfl, fun w _ => by go_simp⟩) hS ?_
      try simp only [Act.put, nz0, nz1, nz2, nz3, nz4, nz5]
      refine tkH (i := 26) (v := .bool false) rfl (by kernel_rfl) (fun _ _ _ h => h) (Or.inl ⟨by rfl, fun w _ => by go_simp⟩) hS ?_
      try simp only [Act.put, nz0, nz1, nz2, nz3, nz4, nz5]
      refine wpAnyH_done (by kernel_rfl) ?_ _
      go_upto_region 15 with fail
      have hb13 := hS.2.2.2
      have hc13 := HC12.out.below hb13
      have r13 := hS.1
      refine wp_region_held_drew (S := fun W => Row W A2 #[.bool true, .int .u16 k] 31) (by kernel_rfl) r13 fun hS => ?_
      have hb14 : Below w2_23.heap.size w2_23 w2_23.drew := (Below.refl _ _).drew
      have hc14 := hc13.below hb14
      clear hb13 hc13 r13 hb14
      generalize w2_23.drew = W14 at hS hc14 ⊢
      refine tkH (i := 0) (v := .pointer (some ⟨gc, 0, none⟩)) rfl (by kernel_rfl) (fun _ _ _ h => h) (Or.inl ⟨by rfl, fun w _ => by rfl⟩) hS ?_
      try simp only [Act.put, nz0, nz1, nz2, nz3, nz4, nz5]
      refine tkH (i := 1) (v := .agg #[.bool true, .int .u16 k]) rfl (by kernel_rfl) (fun _ _ _ h => h) (yields_cells (by rfl) 31 (.tmp 2) rfl A2 rfl 31 #[.bool true, .int .u16 k] (fun w h => h) 2 Try.underlying31 rfl size31 rfl) hS ?_
      try simp only [Act.put, nz0, nz1, nz2, nz3, nz4, nz5]
      refine tkH (i := 2) (v := .agg #[.bool true, .int .u16 k]) rfl (by kernel_rfl) (fun _ _ _ h => h) (yields_cells (by rfl) 31 (.tmp 2) rfl A2 rfl 31 #[.bool true, .int .u16 k] (fun w h => h) 2 Try.underlying31 rfl size31 rfl) hS ?_
      try simp only [Act.put, nz0, nz1, nz2, nz3, nz4, nz5]
      refine wpAnyH_ready (rs := [3]) (by kernel_rfl) (by simp) ?_
      refine (AllReadyH.cons rfl (fun K hK => ?_) AllReadyH.nil)
      have hfl := HFL.out W14
      go_simp
      go_at_call 19
      refine Calls.mono hfl ?_
      clear hfl
      rintro e W15 ⟨he, hb5⟩
      obtain rfl := he
      have hc15 := hc14.below hb5
      refine hK.out _ _ (hS.below hb5 hS.lt) fun hS => ?_
      try simp only [Act.put, nz0, nz1, nz2, nz3, nz4, nz5]
      clear hc14 hb5
      refine wpAnyH_ready (rs := [4]) (by kernel_rfl) (by simp) ?_
      refine (AllReadyH.cons rfl (fun K hK => ?_) AllReadyH.nil)
      have hpu := HPU.out W15 hc15
      go_simp
      go_at_call 18
      refine Calls.mono hpu ?_
      clear hpu
      rintro e W16 ⟨he, hst⟩
      obtain rfl := he
      obtain ⟨F16, hc16, tr16⟩ := hc15.step hst
      have hto := HTP.out F16 W16 hc16
      refine hK.out _ _ (hS.off tr16.1 (HN2.out F12 hc15.2.2)) fun hS => ?_
      try simp only [Act.put, nz0, nz1, nz2, nz3, nz4, nz5]
      clear hst tr16 hc15
      refine tkH (i := 5) (v := .bool true) rfl (by kernel_rfl) (fun _ _ _ h => h) (Or.inl ⟨by rfl, fun w _ => by go_simp⟩) hS ?_
      try simp only [Act.put, nz0, nz1, nz2, nz3, nz4, nz5]
      refine tkH (i := 6) (v := .bool true) rfl (by kernel_rfl) (fun _ _ _ h => h) (Or.inl ⟨by rfl, fun w _ => by rfl⟩) hS ?_
      try simp only [Act.put, nz0, nz1, nz2, nz3, nz4, nz5]
      refine tkH (i := 7) (v := .pointer (some ⟨gc, 0, none⟩)) rfl (by kernel_rfl) (fun _ _ _ h => h) (Or.inl ⟨by rfl, fun w _ => by rfl⟩) hS ?_
      try simp only [Act.put, nz0, nz1, nz2, nz3, nz4, nz5]
      refine tkH (i := 8) (v := .agg #[.bool true, .int .u16 k]) rfl (by kernel_rfl) (fun _ _ _ h => h) (yields_cells (by rfl) 31 (.tmp 2) rfl A2 rfl 31 #[.bool true, .int .u16 k] (fun w h => h) 2 Try.underlying31 rfl size31 rfl) hS ?_
      try simp only [Act.put, nz0, nz1, nz2, nz3, nz4, nz5]
      refine wpAnyH_ready (rs := [9]) (by kernel_rfl) (by simp) ?_
      refine (AllReadyH.cons rfl (fun K hK => ?_) AllReadyH.nil)
      go_simp
      go_at_call 32
      refine Calls.mono hto ?_
      clear hto
      rintro e W17 ⟨he, hb7⟩
      obtain rfl := he
      have hc17 := hc16.below hb7
      refine hK.out _ _ (hS.below hb7 hS.lt) fun hS => ?_
      try simp only [Act.put, nz0, nz1, nz2, nz3, nz4, nz5]
      clear hc16 hb7
      refine tkH (i := 10) (v := .bool true) rfl (by kernel_rfl) (fun _ _ _ h => h) (Or.inl ⟨by rfl, fun w _ => by go_simp⟩) hS ?_
      try simp only [Act.put, nz0, nz1, nz2, nz3, nz4, nz5]
      refine tkH (i := 11) (v := .bool true) rfl (by kernel_rfl) (fun _ _ _ h => h) (Or.inl ⟨by rfl, fun w _ => by go_simp⟩) hS ?_
      try simp only [Act.put, nz0, nz1, nz2, nz3, nz4, nz5]
      refine tkH (i := 12) (v := .bool true) rfl (by kernel_rfl) (fun _ _ _ h => h) (Or.inl ⟨by rfl, fun w _ => by rfl⟩) hS ?_
      try simp only [Act.put, nz0, nz1, nz2, nz3, nz4, nz5]
      refine wpAnyH_ready (rs := [13]) (by kernel_rfl) (by simp) ?_
      refine (AllReadyH.cons rfl (fun K hK => ?_) AllReadyH.nil)
      have haw := awake_any W17
      go_simp
      go_at_call 14
      refine Calls.mono haw ?_
      clear haw
      rintro e W18 ⟨he, hb8⟩
      obtain rfl := he
      have hbw : Below W0.heap.size W0 W18 := hc17.1.trans (hb8.mono hc17.1.size)
      refine hK.out _ _ (hS.below hb8 hS.lt) fun hS => ?_
      try simp only [Act.put, nz0, nz1, nz2, nz3, nz4, nz5]
      clear hc17 hb8
      refine tkH (i := 14) (v := .bool true) rfl (by kernel_rfl) (fun _ _ _ h => h) (Or.inl ⟨by rfl, fun w _ => by go_simp⟩) hS ?_
      try simp only [Act.put, nz0, nz1, nz2, nz3, nz4, nz5]
      refine tkH (i := 15) (v := .bool true) rfl (by kernel_rfl) (fun _ _ _ h => h) (Or.inl ⟨by rfl, fun w _ => by rfl⟩) hS ?_
      try simp only [Act.put, nz0, nz1, nz2, nz3, nz4, nz5]
      refine wpAnyH_done (by kernel_rfl) ?_ _
      go_wp2
      rw [HPP.out]
      exact ⟨rfl, HAB.out.trans (hbw.mono HAB.out.size)⟩
    | true =>
      have hri : Calls Try.prog 31 #[.agg #[.bool true, .int .u16 k], .agg PQ] W5 fun e w' => e = .returned (.bool (isP true k (Sl.payN b 4))) ∧ Below W5.heap.size W5 w' := by
        have e9 : bs (Sl.payN b 4) = PQ := by rw [← HPQ.out, HBW.out, if_pos rfl]
        rw [← e9]
        exact rright_any true k (Sl.payN b 4) W5 HKR.out (Sl.payN_length _ _) (payC_bytes b HBY.out HBN.out)
      have r125 := HR5.out.2.1
      obtain ⟨br, HBR⟩ : ∃ br, Hid (isP true k (Sl.payN b 4) = br) := ⟨_, rfl⟩
      rw [HBR.out] at hri
      have tl5 : Hid (1 = 1) := rfl
      have tl12 : Hid (1 = 1) := rfl
      cases br with
      | false =>
        have HOF : Hid (openF true k b = ⟨true, k, blankP true k, true, false, 0⟩) := by show _ = _; unfold openF; rw [if_neg (fun z => by rw [HBR.out] at z; simp at z)]
        go_upto_region 12 with (first
          | (have hh := tl5; clear hh tl5; refine load_cells_g (by rfl) 31 (.tmp 2) rfl A2 rfl 31 #[.bool true, .int .u16 k] rr5 2 Try.underlying31 rfl size31 rfl ?_)
          | (have hh := tl12; clear hh tl12; refine load_cells_g (by rfl) 34 (.tmp 12) rfl A12 rfl 34 PQ r125 224 Try.underlying34 rfl size34 HPQS.out ?_)
          | (have hh := hri; clear hh; go_at_call 31; refine Calls.mono hri ?_; clear hri; rintro e W6 ⟨he, hb6⟩; obtain rfl := he; have rr6 := rr5.below hb6 rr5.lt))
        have HB6 : Hid (Below W5.heap.size W5 W6) := hb6
        have hfe := HFE.out W6 hb6
        clear r125 hb6
        obtain ⟨PX, HPXD⟩ : ∃ PX, Hid (bs (blankP true k) = PX) := ⟨_, rfl⟩
        have HPX : Hid (bs (openF true k b).p = PX) := by show _ = _; rw [HOF.out, ← HPXD.out]
        have HTN : Hid ((openF true k b).torn = true) := by show _ = _; rw [HOF.out]
        have HPXS : Hid (PX.size = 224) := by rw [← HPXD.out, bs_size]; exact blankP_length _ _
        have hpxo : PX.all (·.oneCell') = true := by rw [← HPXD.out]; exact bs_one _
        have HBK : Hid (∀ W, Calls Try.prog 33 #[.agg #[.bool true, .int .u16 k]] W fun e w' => e = .returned (.agg PX) ∧ Below W.heap.size W w') := fun W => by rw [← HPXD.out]; exact rblank_any true k W HKR.out
        have HEQX : Hid (∀ w, (Op.equalIn 10000 34 (.agg PX) (.agg PX)).run Try.prog w = .ok true w) := fun w => by
          have := equal34 (blankP true k) (blankP true k) (blankP_length _ _) (blankP_length _ _) w
          rw [HPXD.out] at this
          rw [this, decide_eq_true rfl]
        have tl6 : Hid (1 = 1) := rfl
        have ts : Hid (1 = 1) := rfl
        go_upto_region 13 with (first
          | (have hh := tl6; clear hh tl6; refine load_cells rfl 31 (.tmp 2) rfl A2 rfl 31 #[.bool true, .int .u16 k] rr6 2 Try.underlying31 rfl size31 rfl ?_)
          | (have hh := hfe; clear hh; go_at_call 16; refine Calls.mono hfe ?_; clear hfe; rintro e W7 ⟨F12, s1, d1, he, hc7, tr7, hs7, hp7⟩; rw [HPX.out] at he; obtain rfl := he; have rr7 := rr6.off tr7.1 (HN2.out F3 HC5.out.2.2); have l127 := (HR5.out.2.below HB6.out).tr tr7; have l15 : CLoc F12 (W7.alloc (.cells ZP 34)) W7.heap.size ZP 34 := hc7.newLoc _ _)
          | (have hh := ts; clear hh ts; refine store_cells rfl 34 (.tmp 15) (.tmp 106) rfl W7.heap.size PX rfl rfl 34 _ l15.1 224 size34 HZP.out HPXS.out hpxo ?_))
        have hc12 := (hc7.alloc (.cells ZP 34)).row l15 hc7.1.size PX
        have a2 := ((rr7.alloc (.cells ZP 34)).other (g := W7.heap.size) (by have := rr7.lt; omega) PX)
        have a12 := ((l127.1.alloc (.cells ZP 34)).other (g := W7.heap.size) (by have := l127.1.lt; omega) PX)
        have a15 := (l15.set PX).1
        have HS7 : Hid (s1.fs = [openF true k b] ∧ (s1.ck[0]?).map Cl.Fr.pins = some 1) := ⟨hs7, hp7⟩
        clear hc7 l15 rr7 l127 tr7 rr6 hs7 hp7 rr5
        generalize (W7.alloc (.cells ZP 34)).setRow W7.heap.size PX = W12 at hc12 a2 a12 a15 ⊢
        generalize W7.heap.size = A15 at a15 ⊢
        have HC12 : Hid (CS W0 F12 gc gd gl gk ak s1 log0 d1 1 4008 W12) := hc12
        have HON : Hid (putE s1 true k (fillP true k 1 0) = 0 ∧ putS s1 true k (fillP true k 1 0) = { s1 with fs := [putF (openF true k b) (fillP true k 1 0)] } ∧ tornC (putS s1 true k (fillP true k 1 0)) true k = false ∧ tornC s1 true k = true) := by
          have := one_put HS7.out.1 HS7.out.2 (p := fillP true k 1 0) (by rw [openF_un, openF_no]; exact fill_is true k 1 0 HKR.out (by decide) (by decide))
          rw [openF_un, openF_no, HTN.out] at this
          exact this
        have HTO : Hid (∀ W, Below W12.heap.size W12 W → Calls Try.prog 32 #[.pointer (some ⟨gc, 0, none⟩), .agg #[.bool true, .int .u16 k]] W fun e w' => e = .returned (.bool true) ∧ Below W.heap.size W w') := fun W hb => by
          obtain ⟨fv, m, n, vl, vs, L, cA, _⟩ := (HC12.out.below hb).2.1.ex
          have := torn_any cA HC12.out.2.1.ok true k HKW.out
          rw [HON.out.2.2.2] at this
          exact this
        have HPU : Hid (∀ W, CS W0 F12 gc gd gl gk ak s1 log0 d1 1 4008 W → Calls Try.prog 18 #[.pointer (some ⟨gc, 0, none⟩), .agg #[.bool true, .int .u16 k], .agg PF] W fun e w' => e = .returned (.int .i64 0) ∧ CStep W F12 gc gd gl gk ak (putS s1 true k (fillP true k 1 0)) log0 d1 1 4008 w') := fun W h => by
          have := cput_any h.2.1 true k HKW.out (fillP true k 1 0) (fillP_length _ _ _ _) (fillP_bytes _ _ _ _)
          rw [HON.out.1, HPF.out] at this
          exact this
        have HTP : Hid (∀ F' W, CS W0 F' gc gd gl gk ak (putS s1 true k (fillP true k 1 0)) log0 d1 1 4008 W → Calls Try.prog 32 #[.pointer (some ⟨gc, 0, none⟩), .agg #[.bool true, .int .u16 k]] W fun e w' => e = .returned (.bool false) ∧ Below W.heap.size W w') := fun F' W h => by
          obtain ⟨fv, m, n, vl, vs, L, cA, _⟩ := h.2.1.ex
          have := torn_any cA h.2.1.ok true k HKW.out
          rw [HON.out.2.2.1] at this
          exact this
        clear hc12
        refine wp_region_held_drew (S := fun w' => Row w' A2 #[.bool true, .int .u16 k] 31 ∧ Row w' A12 PQ 34 ∧ Row w' A15 PX 34 ∧ Below W12.heap.size W12 w') (by kernel_rfl) ⟨a2, a12, a15, (Below.refl _ _).drew⟩ fun hS => ?_
        clear a2 a12 a15
        refine tkH (i := 0) (v := .int .i64 0) rfl (by kernel_rfl) (fun _ _ _ h => h) (Or.inl ⟨by rfl, fun w _ => by go_simp⟩) hS ?_
        try simp only [Act.put, nz0, nz1, nz2, nz3, nz4, nz5]
        refine tkH (i := 1) (v := .bool false) rfl (by kernel_rfl) (fun _ _ _ h => h) (Or.inl ⟨by rfl, fun w _ => by go_simp⟩) hS ?_
        try simp only [Act.put, nz0, nz1, nz2, nz3, nz4, nz5]
        refine tkH (i := 2) (v := .bool false) rfl (by kernel_rfl) (fun _ _ _ h => h) (Or.inl ⟨by rfl, fun w _ => by go_simp⟩) hS ?_
        try simp only [Act.put, nz0, nz1, nz2, nz3, nz4, nz5]
        refine tkH (i := 3) (v := .pointer (some ⟨gc, 0, none⟩)) rfl (by kernel_rfl) (fun _ _ _ h => h) (Or.inl ⟨by rfl, fun w _ => by go_simp⟩) hS ?_
        try simp only [Act.put, nz0, nz1, nz2, nz3, nz4, nz5]
        refine tkH (i := 4) (v := .agg #[.bool true, .int .u16 k]) rfl (by kernel_rfl) (fun _ _ _ h => h) (yields_cells (by rfl) 31 (.tmp 2) rfl A2 rfl 31 #[.bool true, .int .u16 k] (fun w h => h.1) 2 Try.underlying31 rfl size31 rfl) hS ?_
        try simp only [Act.put, nz0, nz1, nz2, nz3, nz4, nz5]
        refine tkH (i := 6) (v := .bool false) rfl (by kernel_rfl) (fun _ _ _ h => h) (Or.inl ⟨by rfl, fun w _ => by go_simp⟩) hS ?_
        try simp only [Act.put, nz0, nz1, nz2, nz3, nz4, nz5]
        refine wpAnyH_ready (rs := [5]) (by kernel_rfl) (by simp) ?_
        refine AllReadyH.cons rfl (fun K hK => ?_) AllReadyH.nil
        go_simp
        go_at_call 32
        refine Calls.mono (HTO.out _ hS.2.2.2) ?_
        rintro e wc ⟨rfl, hcb⟩
        refine hK.out _ _ (⟨hS.1.below hcb hS.1.lt, hS.2.1.below hcb hS.2.1.lt, hS.2.2.1.below hcb hS.2.2.1.lt, hS.2.2.2.trans (hcb.mono hS.2.2.2.size)⟩) fun hS => ?_
        try simp only [Act.put, nz0, nz1, nz2, nz3, nz4, nz5]
        clear hcb
        refine tkH (i := 7) (v := .bool false) rfl (by kernel_rfl) (fun _ _ _ h => h) (Or.inl ⟨by rfl, fun w _ => by go_simp⟩) hS ?_
        try simp only [Act.put, nz0, nz1, nz2, nz3, nz4, nz5]
        refine tkH (i := 8) (v := .bool false) rfl (by kernel_rfl) (fun _ _ _ h => h) (Or.inl ⟨by rfl, fun w _ => by go_simp⟩) hS ?_
        try simp only [Act.put, nz0, nz1, nz2, nz3, nz4, nz5]
        refine tkH (i := 9) (v := .bool false) rfl (by kernel_rfl) (fun _ _ _ h => h) (Or.inl ⟨by rfl, fun w _ => by go_simp⟩) hS ?_
        try simp only [Act.put, nz0, nz1, nz2, nz3, nz4, nz5]
        refine tkH (i := 10) (v := .bool false) rfl (by kernel_rfl) (fun _ _ _ h => h) (Or.inl ⟨by rfl, fun w _ => by go_simp⟩) hS ?_
        try simp only [Act.put, nz0, nz1, nz2, nz3, nz4, nz5]
        refine tkH (i := 11) (v := .bool false) rfl (by kernel_rfl) (fun _ _ _ h => h) (Or.inl ⟨by rfl, fun w _ => by go_simp⟩) hS ?_
        try simp only [Act.put, nz0, nz1, nz2, nz3, nz4, nz5]
        refine tkH (i := 12) (v := undef) rfl (by kernel_rfl) (fun _ _ _ h => h) (Or.inr ⟨by rfl, rfl⟩) hS ?_
        try simp only [Act.put, nz0, nz1, nz2, nz3, nz4, nz5]
        refine tkH (i := 13) (v := undef) rfl (by kernel_rfl) (fun _ _ _ h => h) (Or.inr ⟨by rfl, rfl⟩) hS ?_
        try simp only [Act.put, nz0, nz1, nz2, nz3, nz4, nz5]
        refine tkH (i := 14) (v := undef) rfl (by kernel_rfl) (fun _ _ _ h => h) (Or.inr ⟨by rfl, rfl⟩) hS ?_
        try simp only [Act.put, nz0, nz1, nz2, nz3, nz4, nz5]
        refine tkH (i := 15) (v := .bool false) rfl (by kernel_rfl) (fun _ _ _ h => h) (Or.inl ⟨by rfl, fun w _ => by go_simp⟩) hS ?_
        try simp only [Act.put, nz0, nz1, nz2, nz3, nz4, nz5]
        refine tkH (i := 16) (v := .bool false) rfl (by kernel_rfl) (fun _ _ _ h => h) (Or.inl ⟨by rfl, fun w _ => by go_simp⟩) hS ?_
        try simp only [Act.put, nz0, nz1, nz2, nz3, nz4, nz5]
        refine tkH (i := 17) (v := .bool false) rfl (by kernel_rfl) (fun _ _ _ h => h) (Or.inl ⟨by rfl, fun w _ => by go_simp⟩) hS ?_
        try simp only [Act.put, nz0, nz1, nz2, nz3, nz4, nz5]
        refine tkH (i := 18) (v := .bool false) rfl (by kernel_rfl) (fun _ _ _ h => h) (Or.inl ⟨by rfl, fun w _ => by go_simp⟩) hS ?_
        try simp only [Act.put, nz0, nz1, nz2, nz3, nz4, nz5]
        refine tkH (i := 19) (v := .bool true) rfl (by kernel_rfl) (fun _ _ _ h => h) (Or.inl ⟨by rfl, fun w _ => by go_simp⟩) hS ?_
        try simp only [Act.put, nz0, nz1, nz2, nz3, nz4, nz5]
        refine tkH (i := 20) (v := .bool true) rfl (by kernel_rfl) (fun _ _ _ h => h) (Or.inl ⟨by rfl, fun w _ => by go_simp⟩) hS ?_
        try simp only [Act.put, nz0, nz1, nz2, nz3, nz4, nz5]
        refine tkH (i := 21) (v := .agg PX) rfl (by kernel_rfl) (fun _ _ _ h => h) (yields_cells (by rfl) 34 (.tmp 15) rfl A15 rfl 34 PX (fun w h => h.2.2.1) 224 Try.underlying34 rfl size34 HPXS.out) hS ?_
        try simp only [Act.put, nz0, nz1, nz2, nz3, nz4, nz5]
        refine tkH (i := 22) (v := .agg #[.bool true, .int .u16 k]) rfl (by kernel_rfl) (fun _ _ _ h => h) (yields_cells (by rfl) 31 (.tmp 2) rfl A2 rfl 31 #[.bool true, .int .u16 k] (fun w h => h.1) 2 Try.underlying31 rfl size31 rfl) hS ?_
        try simp only [Act.put, nz0, nz1, nz2, nz3, nz4, nz5]
        refine wpAnyH_ready (rs := [23]) (by kernel_rfl) (by simp) ?_
        refine AllReadyH.cons rfl (fun K hK => ?_) AllReadyH.nil
        go_simp
        go_at_call 33
        refine Calls.mono (HBK.out _) ?_
        rintro e w2_23 ⟨rfl, hcb⟩
        refine hK.out _ _ (⟨hS.1.below hcb hS.1.lt, hS.2.1.below hcb hS.2.1.lt, hS.2.2.1.below hcb hS.2.2.1.lt, hS.2.2.2.trans (hcb.mono hS.2.2.2.size)⟩) fun hS => ?_
        try simp only [Act.put, nz0, nz1, nz2, nz3, nz4, nz5]
        clear hcb
        refine tkH (i := 24) (v := .bool false) rfl (by kernel_rfl) (fun _ _ _ h => h) (yields_neq (by rfl) 34 34 (.tmp 129) (.tmp 131) rfl PX PX rfl rfl Try.eqGuardType34 true HEQX.out) hS ?_
        try simp only [Act.put, nz0, nz1, nz2, nz3, nz4, nz5]
        refine tkH (i := 25) (v := .bool false) rfl (by kernel_rfl) (fun _ _ _ h => h) (Or.inl ⟨by rfl, fun w _ => by go_simp⟩) hS ?_
        try simp only [Act.put, nz0, nz1, nz2, nz3, nz4, nz5]
        refine tkH (i := 26) (v := .bool false) rfl (by kernel_rfl) (fun _ _ _ h => h) (Or.inl ⟨by rfl, fun w _ => by go_simp⟩) hS ?_
        try simp only [Act.put, nz0, nz1, nz2, nz3, nz4, nz5]
        refine wpAnyH_done (by kernel_rfl) ?_ _
        go_upto_region 15 with fail
        have hb13 := hS.2.2.2
        have hc13 := HC12.out.below hb13
        have r13 := hS.1
        refine wp_region_held_drew (S := fun W => Row W A2 #[.bool true, .int .u16 k] 31) (by kernel_rfl) r13 fun hS => ?_
        have hb14 : Below w2_23.heap.size w2_23 w2_23.drew := (Below.refl _ _).drew
        have hc14 := hc13.below hb14
        clear hb13 hc13 r13 hb14
        generalize w2_23.drew = W14 at hS hc14 ⊢
        refine tkH (i := 0) (v := .pointer (some ⟨gc, 0, none⟩)) rfl (by kernel_rfl) (fun _ _ _ h => h) (Or.inl ⟨by rfl, fun w _ => by rfl⟩) hS ?_
        try simp only [Act.put, nz0, nz1, nz2, nz3, nz4, nz5]
        refine tkH (i := 1) (v := .agg #[.bool true, .int .u16 k]) rfl (by kernel_rfl) (fun _ _ _ h => h) (yields_cells (by rfl) 31 (.tmp 2) rfl A2 rfl 31 #[.bool true, .int .u16 k] (fun w h => h) 2 Try.underlying31 rfl size31 rfl) hS ?_
        try simp only [Act.put, nz0, nz1, nz2, nz3, nz4, nz5]
        refine tkH (i := 2) (v := .agg #[.bool true, .int .u16 k]) rfl (by kernel_rfl) (fun _ _ _ h => h) (yields_cells (by rfl) 31 (.tmp 2) rfl A2 rfl 31 #[.bool true, .int .u16 k] (fun w h => h) 2 Try.underlying31 rfl size31 rfl) hS ?_
        try simp only [Act.put, nz0, nz1, nz2, nz3, nz4, nz5]
        refine wpAnyH_ready (rs := [3]) (by kernel_rfl) (by simp) ?_
        refine (AllReadyH.cons rfl (fun K hK => ?_) AllReadyH.nil)
        have hfl := HFL.out W14
        go_simp
        go_at_call 19
        refine Calls.mono hfl ?_
        clear hfl
        rintro e W15 ⟨he, hb5⟩
        obtain rfl := he
        have hc15 := hc14.below hb5
        refine hK.out _ _ (hS.below hb5 hS.lt) fun hS => ?_
        try simp only [Act.put, nz0, nz1, nz2, nz3, nz4, nz5]
        clear hc14 hb5
        refine wpAnyH_ready (rs := [4]) (by kernel_rfl) (by simp) ?_
        refine (AllReadyH.cons rfl (fun K hK => ?_) AllReadyH.nil)
        have hpu := HPU.out W15 hc15
        go_simp
        go_at_call 18
        refine Calls.mono hpu ?_
        clear hpu
        rintro e W16 ⟨he, hst⟩
        obtain rfl := he
        obtain ⟨F16, hc16, tr16⟩ := hc15.step hst
        have hto := HTP.out F16 W16 hc16
        refine hK.out _ _ (hS.off tr16.1 (HN2.out F12 hc15.2.2)) fun hS => ?_
        try simp only [Act.put, nz0, nz1, nz2, nz3, nz4, nz5]
        clear hst tr16 hc15
        refine tkH (i := 5) (v := .bool true) rfl (by kernel_rfl) (fun _ _ _ h => h) (Or.inl ⟨by rfl, fun w _ => by go_simp⟩) hS ?_
        try simp only [Act.put, nz0, nz1, nz2, nz3, nz4, nz5]
        refine tkH (i := 6) (v := .bool true) rfl (by kernel_rfl) (fun _ _ _ h => h) (Or.inl ⟨by rfl, fun w _ => by rfl⟩) hS ?_
        try simp only [Act.put, nz0, nz1, nz2, nz3, nz4, nz5]
        refine tkH (i := 7) (v := .pointer (some ⟨gc, 0, none⟩)) rfl (by kernel_rfl) (fun _ _ _ h => h) (Or.inl ⟨by rfl, fun w _ => by rfl⟩) hS ?_
        try simp only [Act.put, nz0, nz1, nz2, nz3, nz4, nz5]
        refine tkH (i := 8) (v := .agg #[.bool true, .int .u16 k]) rfl (by kernel_rfl) (fun _ _ _ h => h) (yields_cells (by rfl) 31 (.tmp 2) rfl A2 rfl 31 #[.bool true, .int .u16 k] (fun w h => h) 2 Try.underlying31 rfl size31 rfl) hS ?_
        try simp only [Act.put, nz0, nz1, nz2, nz3, nz4, nz5]
        refine wpAnyH_ready (rs := [9]) (by kernel_rfl) (by simp) ?_
        refine (AllReadyH.cons rfl (fun K hK => ?_) AllReadyH.nil)
        go_simp
        go_at_call 32
        refine Calls.mono hto ?_
        clear hto
        rintro e W17 ⟨he, hb7⟩
        obtain rfl := he
        have hc17 := hc16.below hb7
        refine hK.out _ _ (hS.below hb7 hS.lt) fun hS => ?_
        try simp only [Act.put, nz0, nz1, nz2, nz3, nz4, nz5]
        clear hc16 hb7
        refine tkH (i := 10) (v := .bool true) rfl (by kernel_rfl) (fun _ _ _ h => h) (Or.inl ⟨by rfl, fun w _ => by go_simp⟩) hS ?_
        try simp only [Act.put, nz0, nz1, nz2, nz3, nz4, nz5]
        refine tkH (i := 11) (v := .bool true) rfl (by kernel_rfl) (fun _ _ _ h => h) (Or.inl ⟨by rfl, fun w _ => by go_simp⟩) hS ?_
        try simp only [Act.put, nz0, nz1, nz2, nz3, nz4, nz5]
        refine tkH (i := 12) (v := .bool true) rfl (by kernel_rfl) (fun _ _ _ h => h) (Or.inl ⟨by rfl, fun w _ => by rfl⟩) hS ?_
        try simp only [Act.put, nz0, nz1, nz2, nz3, nz4, nz5]
        refine wpAnyH_ready (rs := [13]) (by kernel_rfl) (by simp) ?_
        refine (AllReadyH.cons rfl (fun K hK => ?_) AllReadyH.nil)
        have haw := awake_any W17
        go_simp
        go_at_call 14
        refine Calls.mono haw ?_
        clear haw
        rintro e W18 ⟨he, hb8⟩
        obtain rfl := he
        have hbw : Below W0.heap.size W0 W18 := hc17.1.trans (hb8.mono hc17.1.size)
        refine hK.out _ _ (hS.below hb8 hS.lt) fun hS => ?_
        try simp only [Act.put, nz0, nz1, nz2, nz3, nz4, nz5]
        clear hc17 hb8
        refine tkH (i := 14) (v := .bool true) rfl (by kernel_rfl) (fun _ _ _ h => h) (Or.inl ⟨by rfl, fun w _ => by go_simp⟩) hS ?_
        try simp only [Act.put, nz0, nz1, nz2, nz3, nz4, nz5]
        refine tkH (i := 15) (v := .bool true) rfl (by kernel_rfl) (fun _ _ _ h => h) (Or.inl ⟨by rfl, fun w _ => by rfl⟩) hS ?_
        try simp only [Act.put, nz0, nz1, nz2, nz3, nz4, nz5]
        refine wpAnyH_done (by kernel_rfl) ?_ _
        go_wp2
        rw [HPP.out]
        exact ⟨rfl, HAB.out.trans (hbw.mono HAB.out.size)⟩
      | true =>
        have HOF : Hid (openF true k b = ⟨true, k, Sl.payN b 4, false, false, 0⟩) := by show _ = _; unfold openF; rw [if_pos ⟨HBW.out, HBR.out⟩]
        go_upto_region 12 with (first
          | (have hh := tl5; clear hh tl5; refine load_cells_g (by rfl) 31 (.tmp 2) rfl A2 rfl 31 #[.bool true, .int .u16 k] rr5 2 Try.underlying31 rfl size31 rfl ?_)
          | (have hh := tl12; clear hh tl12; refine load_cells_g (by rfl) 34 (.tmp 12) rfl A12 rfl 34 PQ r125 224 Try.underlying34 rfl size34 HPQS.out ?_)
          | (have hh := hri; clear hh; go_at_call 31; refine Calls.mono hri ?_; clear hri; rintro e W6 ⟨he, hb6⟩; obtain rfl := he; have rr6 := rr5.below hb6 rr5.lt))
        have HB6 : Hid (Below W5.heap.size W5 W6) := hb6
        have hfe := HFE.out W6 hb6
        clear r125 hb6
        have HPX : Hid (bs (openF true k b).p = PQ) := by show _ = _; rw [HOF.out, ← HPQ.out, HBW.out, if_pos rfl]
        have HTN : Hid ((openF true k b).torn = false) := by show _ = _; rw [HOF.out]
        have HEQQ : Hid (∀ w, (Op.equalIn 10000 34 (.agg PQ) (.agg PQ)).run Try.prog w = .ok true w) := fun w => by
          have := equal34 (Sl.payN b 4) (Sl.payN b 4) (Sl.payN_length _ _) (Sl.payN_length _ _) w
          rw [show bs (Sl.payN b 4) = PQ by rw [← HPQ.out, HBW.out, if_pos rfl]] at this
          rw [this, decide_eq_true rfl]
        have HPXS := HPQS
        have hpxo := hpqo
        have tl6 : Hid (1 = 1) := rfl
        have ts : Hid (1 = 1) := rfl
        go_upto_region 13 with (first
          | (have hh := tl6; clear hh tl6; refine load_cells rfl 31 (.tmp 2) rfl A2 rfl 31 #[.bool true, .int .u16 k] rr6 2 Try.underlying31 rfl size31 rfl ?_)
          | (have hh := hfe; clear hh; go_at_call 16; refine Calls.mono hfe ?_; clear hfe; rintro e W7 ⟨F12, s1, d1, he, hc7, tr7, hs7, hp7⟩; rw [HPX.out] at he; obtain rfl := he; have rr7 := rr6.off tr7.1 (HN2.out F3 HC5.out.2.2); have l127 := (HR5.out.2.below HB6.out).tr tr7; have l15 : CLoc F12 (W7.alloc (.cells ZP 34)) W7.heap.size ZP 34 := hc7.newLoc _ _)
          | (have hh := ts; clear hh ts; refine store_cells rfl 34 (.tmp 15) (.tmp 106) rfl W7.heap.size PQ rfl rfl 34 _ l15.1 224 size34 HZP.out HPXS.out hpxo ?_))
        have hc12 := (hc7.alloc (.cells ZP 34)).row l15 hc7.1.size PQ
        have a2 := ((rr7.alloc (.cells ZP 34)).other (g := W7.heap.size) (by have := rr7.lt; omega) PQ)
        have a12 := ((l127.1.alloc (.cells ZP 34)).other (g := W7.heap.size) (by have := l127.1.lt; omega) PQ)
        have a15 := (l15.set PQ).1
        have HS7 : Hid (s1.fs = [openF true k b] ∧ (s1.ck[0]?).map Cl.Fr.pins = some 1) := ⟨hs7, hp7⟩
        clear hc7 l15 rr7 l127 tr7 rr6 hs7 hp7 rr5
        generalize (W7.alloc (.cells ZP 34)).setRow W7.heap.size PQ = W12 at hc12 a2 a12 a15 ⊢
        generalize W7.heap.size = A15 at a15 ⊢
        have HC12 : Hid (CS W0 F12 gc gd gl gk ak s1 log0 d1 1 4008 W12) := hc12
        have HON : Hid (putE s1 true k (fillP true k 1 0) = 0 ∧ putS s1 true k (fillP true k 1 0) = { s1 with fs := [putF (openF true k b) (fillP true k 1 0)] } ∧ tornC (putS s1 true k (fillP true k 1 0)) true k = false ∧ tornC s1 true k = false) := by
          have := one_put HS7.out.1 HS7.out.2 (p := fillP true k 1 0) (by rw [openF_un, openF_no]; exact fill_is true k 1 0 HKR.out (by decide) (by decide))
          rw [openF_un, openF_no, HTN.out] at this
          exact this
        have HTO : Hid (∀ W, Below W12.heap.size W12 W → Calls Try.prog 32 #[.pointer (some ⟨gc, 0, none⟩), .agg #[.bool true, .int .u16 k]] W fun e w' => e = .returned (.bool false) ∧ Below W.heap.size W w') := fun W hb => by
          obtain ⟨fv, m, n, vl, vs, L, cA, _⟩ := (HC12.out.below hb).2.1.ex
          have := torn_any cA HC12.out.2.1.ok true k HKW.out
          rw [HON.out.2.2.2] at this
          exact this
        have HPU : Hid (∀ W, CS W0 F12 gc gd gl gk ak s1 log0 d1 1 4008 W → Calls Try.prog 18 #[.pointer (some ⟨gc, 0, none⟩), .agg #[.bool true, .int .u16 k], .agg PF] W fun e w' => e = .returned (.int .i64 0) ∧ CStep W F12 gc gd gl gk ak (putS s1 true k (fillP true k 1 0)) log0 d1 1 4008 w') := fun W h => by
          have := cput_any h.2.1 true k HKW.out (fillP true k 1 0) (fillP_length _ _ _ _) (fillP_bytes _ _ _ _)
          rw [HON.out.1, HPF.out] at this
          exact this
        have HTP : Hid (∀ F' W, CS W0 F' gc gd gl gk ak (putS s1 true k (fillP true k 1 0)) log0 d1 1 4008 W → Calls Try.prog 32 #[.pointer (some ⟨gc, 0, none⟩), .agg #[.bool true, .int .u16 k]] W fun e w' => e = .returned (.bool false) ∧ Below W.heap.size W w') := fun F' W h => by
          obtain ⟨fv, m, n, vl, vs, L, cA, _⟩ := h.2.1.ex
          have := torn_any cA h.2.1.ok true k HKW.out
          rw [HON.out.2.2.1] at this
          exact this
        clear hc12
        refine wp_region_held_drew (S := fun w' => Row w' A2 #[.bool true, .int .u16 k] 31 ∧ Row w' A12 PQ 34 ∧ Row w' A15 PQ 34 ∧ Below W12.heap.size W12 w') (by kernel_rfl) ⟨a2, a12, a15, (Below.refl _ _).drew⟩ fun hS => ?_
        clear a2 a12 a15
        refine tkH (i := 0) (v := .int .i64 0) rfl (by kernel_rfl) (fun _ _ _ h => h) (Or.inl ⟨by rfl, fun w _ => by go_simp⟩) hS ?_
        try simp only [Act.put, nz0, nz1, nz2, nz3, nz4, nz5]
        refine tkH (i := 1) (v := .bool false) rfl (by kernel_rfl) (fun _ _ _ h => h) (Or.inl ⟨by rfl, fun w _ => by go_simp⟩) hS ?_
        try simp only [Act.put, nz0, nz1, nz2, nz3, nz4, nz5]
        refine tkH (i := 2) (v := .bool false) rfl (by kernel_rfl) (fun _ _ _ h => h) (Or.inl ⟨by rfl, fun w _ => by go_simp⟩) hS ?_
        try simp only [Act.put, nz0, nz1, nz2, nz3, nz4, nz5]
        refine tkH (i := 3) (v := .pointer (some ⟨gc, 0, none⟩)) rfl (by kernel_rfl) (fun _ _ _ h => h) (Or.inl ⟨by rfl, fun w _ => by go_simp⟩) hS ?_
        try simp only [Act.put, nz0, nz1, nz2, nz3, nz4, nz5]
        refine tkH (i := 4) (v := .agg #[.bool true, .int .u16 k]) rfl (by kernel_rfl) (fun _ _ _ h => h) (yields_cells (by rfl) 31 (.tmp 2) rfl A2 rfl 31 #[.bool true, .int .u16 k] (fun w h => h.1) 2 Try.underlying31 rfl size31 rfl) hS ?_
        try simp only [Act.put, nz0, nz1, nz2, nz3, nz4, nz5]
        refine tkH (i := 6) (v := .bool true) rfl (by kernel_rfl) (fun _ _ _ h => h) (Or.inl ⟨by rfl, fun w _ => by go_simp⟩) hS ?_
        try simp only [Act.put, nz0, nz1, nz2, nz3, nz4, nz5]
        refine wpAnyH_ready (rs := [5]) (by kernel_rfl) (by simp) ?_
        refine AllReadyH.cons rfl (fun K hK => ?_) AllReadyH.nil
        go_simp
        go_at_call 32
        refine Calls.mono (HTO.out _ hS.2.2.2) ?_
        rintro e wc ⟨rfl, hcb⟩
        refine hK.out _ _ (⟨hS.1.below hcb hS.1.lt, hS.2.1.below hcb hS.2.1.lt, hS.2.2.1.below hcb hS.2.2.1.lt, hS.2.2.2.trans (hcb.mono hS.2.2.2.size)⟩) fun hS => ?_
        try simp only [Act.put, nz0, nz1, nz2, nz3, nz4, nz5]
        clear hcb
        refine tkH (i := 7) (v := .bool false) rfl (by kernel_rfl) (fun _ _ _ h => h) (Or.inl ⟨by rfl, fun w _ => by go_simp⟩) hS ?_
        try simp only [Act.put, nz0, nz1, nz2, nz3, nz4, nz5]
        refine tkH (i := 8) (v := .bool false) rfl (by kernel_rfl) (fun _ _ _ h => h) (Or.inl ⟨by rfl, fun w _ => by go_simp⟩) hS ?_
        try simp only [Act.put, nz0, nz1, nz2, nz3, nz4, nz5]
        refine tkH (i := 9) (v := .bool false) rfl (by kernel_rfl) (fun _ _ _ h => h) (Or.inl ⟨by rfl, fun w _ => by go_simp⟩) hS ?_
        try simp only [Act.put, nz0, nz1, nz2, nz3, nz4, nz5]
        refine tkH (i := 10) (v := .bool true) rfl (by kernel_rfl) (fun _ _ _ h => h) (Or.inl ⟨by rfl, fun w _ => by go_simp⟩) hS ?_
        try simp only [Act.put, nz0, nz1, nz2, nz3, nz4, nz5]
        refine tkH (i := 11) (v := .bool true) rfl (by kernel_rfl) (fun _ _ _ h => h) (Or.inl ⟨by rfl, fun w _ => by go_simp⟩) hS ?_
        try simp only [Act.put, nz0, nz1, nz2, nz3, nz4, nz5]
        refine tkH (i := 12) (v := .agg PQ) rfl (by kernel_rfl) (fun _ _ _ h => h) (yields_cells (by rfl) 34 (.tmp 15) rfl A15 rfl 34 PQ (fun w h => h.2.2.1) 224 Try.underlying34 rfl size34 HPQS.out) hS ?_
        try simp only [Act.put, nz0, nz1, nz2, nz3, nz4, nz5]
        refine tkH (i := 13) (v := .agg PQ) rfl (by kernel_rfl) (fun _ _ _ h => h) (yields_cells (by rfl) 34 (.tmp 12) rfl A12 rfl 34 PQ (fun w h => h.2.1) 224 Try.underlying34 rfl size34 HPQS.out) hS ?_
        try simp only [Act.put, nz0, nz1, nz2, nz3, nz4, nz5]
        refine tkH (i := 14) (v := .bool false) rfl (by kernel_rfl) (fun _ _ _ h => h) (yields_neq (by rfl) 34 34 (.tmp 120) (.tmp 121) rfl PQ PQ rfl rfl Try.eqGuardType34 true HEQQ.out) hS ?_
        try simp only [Act.put, nz0, nz1, nz2, nz3, nz4, nz5]
        refine tkH (i := 15) (v := .bool false) rfl (by kernel_rfl) (fun _ _ _ h => h) (Or.inl ⟨by rfl, fun w _ => by go_simp⟩) hS ?_
        try simp only [Act.put, nz0, nz1, nz2, nz3, nz4, nz5]
        refine tkH (i := 16) (v := .bool false) rfl (by kernel_rfl) (fun _ _ _ h => h) (Or.inl ⟨by rfl, fun w _ => by go_simp⟩) hS ?_
        try simp only [Act.put, nz0, nz1, nz2, nz3, nz4, nz5]
        refine tkH (i := 17) (v := .bool false) rfl (by kernel_rfl) (fun _ _ _ h => h) (Or.inl ⟨by rfl, fun w _ => by go_simp⟩) hS ?_
        try simp only [Act.put, nz0, nz1, nz2, nz3, nz4, nz5]
        refine tkH (i := 18) (v := .bool true) rfl (by kernel_rfl) (fun _ _ _ h => h) (Or.inl ⟨by rfl, fun w _ => by go_simp⟩) hS ?_
        try simp only [Act.put, nz0, nz1, nz2, nz3, nz4, nz5]
        refine tkH (i := 19) (v := .bool false) rfl (by kernel_rfl) (fun _ _ _ h => h) (Or.inl ⟨by rfl, fun w _ => by go_simp⟩) hS ?_
        try simp only [Act.put, nz0, nz1, nz2, nz3, nz4, nz5]
        refine tkH (i := 20) (v := .bool false) rfl (by kernel_rfl) (fun _ _ _ h => h) (Or.inl ⟨by rfl, fun w _ => by go_simp⟩) hS ?_
        try simp only [Act.put, nz0, nz1, nz2, nz3, nz4, nz5]
        refine tkH (i := 21) (v := undef) rfl (by kernel_rfl) (fun _ _ _ h => h) (Or.inr ⟨by rfl, rfl⟩) hS ?_
        try simp only [Act.put, nz0, nz1, nz2, nz3, nz4, nz5]
        refine tkH (i := 22) (v := undef) rfl (by kernel_rfl) (fun _ _ _ h => h) (Or.inr ⟨by rfl, rfl⟩) hS ?_
        try simp only [Act.put, nz0, nz1, nz2, nz3, nz4, nz5]
        refine tkH (i := 23) (v := undef) rfl (by kernel_rfl) (fun _ _ _ h => h) (Or.inr ⟨by rfl, rfl⟩) hS ?_
        try simp only [Act.put, nz0, nz1, nz2, nz3, nz4, nz5]
        refine tkH (i := 24) (v := undef) rfl (by kernel_rfl) (fun _ _ _ h => h) (Or.inr ⟨by rfl, rfl⟩) hS ?_
        try simp only [Act.put, nz0, nz1, nz2, nz3, nz4, nz5]
        refine tkH (i := 25) (v := .bool false) rfl (by kernel_rfl) (fun _ _ _ h => h) (Or.inl ⟨by rfl, fun w _ => by go_simp⟩) hS ?_
        try simp only [Act.put, nz0, nz1, nz2, nz3, nz4, nz5]
        refine tkH (i := 26) (v := .bool false) rfl (by kernel_rfl) (fun _ _ _ h => h) (Or.inl ⟨by rfl, fun w _ => by go_simp⟩) hS ?_
        try simp only [Act.put, nz0, nz1, nz2, nz3, nz4, nz5]
        refine wpAnyH_done (by kernel_rfl) ?_ _
        go_upto_region 15 with fail
        have hb13 := hS.2.2.2
        have hc13 := HC12.out.below hb13
        have r13 := hS.1
        refine wp_region_held_drew (S := fun W => Row W A2 #[.bool true, .int .u16 k] 31) (by kernel_rfl) r13 fun hS => ?_
        have hb14 : Below wc.heap.size wc wc.drew := (Below.refl _ _).drew
        have hc14 := hc13.below hb14
        clear hb13 hc13 r13 hb14
        generalize wc.drew = W14 at hS hc14 ⊢
        refine tkH (i := 0) (v := .pointer (some ⟨gc, 0, none⟩)) rfl (by kernel_rfl) (fun _ _ _ h => h) (Or.inl ⟨by rfl, fun w _ => by rfl⟩) hS ?_
        try simp only [Act.put, nz0, nz1, nz2, nz3, nz4, nz5]
        refine tkH (i := 1) (v := .agg #[.bool true, .int .u16 k]) rfl (by kernel_rfl) (fun _ _ _ h => h) (yields_cells (by rfl) 31 (.tmp 2) rfl A2 rfl 31 #[.bool true, .int .u16 k] (fun w h => h) 2 Try.underlying31 rfl size31 rfl) hS ?_
        try simp only [Act.put, nz0, nz1, nz2, nz3, nz4, nz5]
        refine tkH (i := 2) (v := .agg #[.bool true, .int .u16 k]) rfl (by kernel_rfl) (fun _ _ _ h => h) (yields_cells (by rfl) 31 (.tmp 2) rfl A2 rfl 31 #[.bool true, .int .u16 k] (fun w h => h) 2 Try.underlying31 rfl size31 rfl) hS ?_
        try simp only [Act.put, nz0, nz1, nz2, nz3, nz4, nz5]
        refine wpAnyH_ready (rs := [3]) (by kernel_rfl) (by simp) ?_
        refine (AllReadyH.cons rfl (fun K hK => ?_) AllReadyH.nil)
        have hfl := HFL.out W14
        go_simp
        go_at_call 19
        refine Calls.mono hfl ?_
        clear hfl
        rintro e W15 ⟨he, hb5⟩
        obtain rfl := he
        have hc15 := hc14.below hb5
        refine hK.out _ _ (hS.below hb5 hS.lt) fun hS => ?_
        try simp only [Act.put, nz0, nz1, nz2, nz3, nz4, nz5]
        clear hc14 hb5
        refine wpAnyH_ready (rs := [4]) (by kernel_rfl) (by simp) ?_
        refine (AllReadyH.cons rfl (fun K hK => ?_) AllReadyH.nil)
        have hpu := HPU.out W15 hc15
        go_simp
        go_at_call 18
        refine Calls.mono hpu ?_
        clear hpu
        rintro e W16 ⟨he, hst⟩
        obtain rfl := he
        obtain ⟨F16, hc16, tr16⟩ := hc15.step hst
        have hto := HTP.out F16 W16 hc16
        refine hK.out _ _ (hS.off tr16.1 (HN2.out F12 hc15.2.2)) fun hS => ?_
        try simp only [Act.put, nz0, nz1, nz2, nz3, nz4, nz5]
        clear hst tr16 hc15
        refine tkH (i := 5) (v := .bool true) rfl (by kernel_rfl) (fun _ _ _ h => h) (Or.inl ⟨by rfl, fun w _ => by go_simp⟩) hS ?_
        try simp only [Act.put, nz0, nz1, nz2, nz3, nz4, nz5]
        refine tkH (i := 6) (v := .bool true) rfl (by kernel_rfl) (fun _ _ _ h => h) (Or.inl ⟨by rfl, fun w _ => by rfl⟩) hS ?_
        try simp only [Act.put, nz0, nz1, nz2, nz3, nz4, nz5]
        refine tkH (i := 7) (v := .pointer (some ⟨gc, 0, none⟩)) rfl (by kernel_rfl) (fun _ _ _ h => h) (Or.inl ⟨by rfl, fun w _ => by rfl⟩) hS ?_
        try simp only [Act.put, nz0, nz1, nz2, nz3, nz4, nz5]
        refine tkH (i := 8) (v := .agg #[.bool true, .int .u16 k]) rfl (by kernel_rfl) (fun _ _ _ h => h) (yields_cells (by rfl) 31 (.tmp 2) rfl A2 rfl 31 #[.bool true, .int .u16 k] (fun w h => h) 2 Try.underlying31 rfl size31 rfl) hS ?_
        try simp only [Act.put, nz0, nz1, nz2, nz3, nz4, nz5]
        refine wpAnyH_ready (rs := [9]) (by kernel_rfl) (by simp) ?_
        refine (AllReadyH.cons rfl (fun K hK => ?_) AllReadyH.nil)
        go_simp
        go_at_call 32
        refine Calls.mono hto ?_
        clear hto
        rintro e W17 ⟨he, hb7⟩
        obtain rfl := he
        have hc17 := hc16.below hb7
        refine hK.out _ _ (hS.below hb7 hS.lt) fun hS => ?_
        try simp only [Act.put, nz0, nz1, nz2, nz3, nz4, nz5]
        clear hc16 hb7
        refine tkH (i := 10) (v := .bool true) rfl (by kernel_rfl) (fun _ _ _ h => h) (Or.inl ⟨by rfl, fun w _ => by go_simp⟩) hS ?_
        try simp only [Act.put, nz0, nz1, nz2, nz3, nz4, nz5]
        refine tkH (i := 11) (v := .bool true) rfl (by kernel_rfl) (fun _ _ _ h => h) (Or.inl ⟨by rfl, fun w _ => by go_simp⟩) hS ?_
        try simp only [Act.put, nz0, nz1, nz2, nz3, nz4, nz5]
        refine tkH (i := 12) (v := .bool true) rfl (by kernel_rfl) (fun _ _ _ h => h) (Or.inl ⟨by rfl, fun w _ => by rfl⟩) hS ?_
        try simp only [Act.put, nz0, nz1, nz2, nz3, nz4, nz5]
        refine wpAnyH_ready (rs := [13]) (by kernel_rfl) (by simp) ?_
        refine (AllReadyH.cons rfl (fun K hK => ?_) AllReadyH.nil)
        have haw := awake_any W17
        go_simp
        go_at_call 14
        refine Calls.mono haw ?_
        clear haw
        rintro e W18 ⟨he, hb8⟩
        obtain rfl := he
        have hbw : Below W0.heap.size W0 W18 := hc17.1.trans (hb8.mono hc17.1.size)
        refine hK.out _ _ (hS.below hb8 hS.lt) fun hS => ?_
        try simp only [Act.put, nz0, nz1, nz2, nz3, nz4, nz5]
        clear hc17 hb8
        refine tkH (i := 14) (v := .bool true) rfl (by kernel_rfl) (fun _ _ _ h => h) (Or.inl ⟨by rfl, fun w _ => by go_simp⟩) hS ?_
        try simp only [Act.put, nz0, nz1, nz2, nz3, nz4, nz5]
        refine tkH (i := 15) (v := .bool true) rfl (by kernel_rfl) (fun _ _ _ h => h) (Or.inl ⟨by rfl, fun w _ => by rfl⟩) hS ?_
        try simp only [Act.put, nz0, nz1, nz2, nz3, nz4, nz5]
        refine wpAnyH_done (by kernel_rfl) ?_ _
        go_wp2
        rw [HPP.out]
        exact ⟨rfl, HAB.out.trans (hbw.mono HAB.out.size)⟩
end Go.Proofs.Ytehogiondcpbcaa
