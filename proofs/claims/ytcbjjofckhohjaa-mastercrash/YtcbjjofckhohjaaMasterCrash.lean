/-
  Proved here: wherever the power goes while a newer master is stored in the other place, and whatever is kept, the older or the newer one is loaded, the newer one if Store was OK (MasterCrash).
-/
import Derived.Test.YtcbjjofckhohjaaMob
namespace Go.Proofs.Ytcbjjofckhohjaa.masterCrash
open Go.ChangeShapes Go.WideShapes Go.ChangeAt Go.RowKit
open Go.Deep
set_option linter.unusedVariables false
set_option linter.unusedSimpArgs false

theorem own : ownKnob Try.prog.godebug = none := by kernel_rfl

set_option maxRecDepth 20000

theorem dn_cell {w wr : World} {G : Nat} {d : Dsk} {L : Loc} {N : Nat} (h : Dn w wr G d L N) (g j : Nat) (v : Value) (hg : ¬ foot G L g) (hw : w.heap.size ≤ g) : Dn w (wr.setCell ⟨g, j, none⟩ v) G d L N :=
  ⟨h.at_.off (Off.of_setCell (F := (· = g)) _ _ _ rfl) (fun k hk e => hg (e ▸ hk)), h.lo, h.be.setCell hw v⟩
/-- The newer master of a round. -/
def nxM (q k : Int) : M := ⟨q, k, 0, 9, 0, 2, 3, 64, 100⟩
theorem nx_may (q k : Int) : mayM (nxM q k) = true := by
  unfold mayM nxM; simp
theorem eqM_ne {a b : M} (h : a.seq ≠ b.seq) : eqM a b = false := by
  unfold eqM; simp [h]
set_option maxHeartbeats 8000000 in
theorem walk_at (w : World) (mo : Int) (sb : Bool) (fu : Int) (v : Value) (bl : List Bool) (ti : Int) (t : Int) (hst : t = if sb then 1 else 0) (hmo : 0 ≤ mo ∧ mo ≤ 255) (hfu : 0 ≤ fu ∧ fu ≤ 255) (hv : Cel w v (bl.map .bool)) (hbl : bl.length ≤ 140737488355328) (hti : 0 ≤ ti ∧ ti ≤ 255) :
    Calls Try.prog 6 #[.int .u8 mo, .bool sb, .int .u8 fu, v, .int .u8 ti] w fun e w' => e = .returned (.bool true) ∧ Below w.heap.size w w' := by
  have HA : Hid _ := awake_any
  obtain ⟨F, HF⟩ : ∃ F : Int, 1 + fu % 4 = F := ⟨_, rfl⟩
  obtain ⟨T, HT⟩ : ∃ T : Int, ti % 6 = T := ⟨_, rfl⟩
  obtain ⟨O, HO⟩ : ∃ O : Int, mo % 5 = O := ⟨_, rfl⟩
  have ht01 : t = 0 ∨ t = 1 := by rw [hst]; cases sb; · exact Or.inl rfl
                                  · exact Or.inr rfl
  obtain ⟨D0, f0, e0, hR0, hC0⟩ := CInv.first t ht01 bl F
  have HPSV : Hid (∀ w, Calls Try.prog 20 #[.int .u64 7] w fun e w' => e = .returned (.agg #[.int .u64 7, .int .u32 3, .int .u32 0, .int .u64 9, .int .u32 0, .int .i64 2, .int .i64 3, .int .i64 64, .int .u32 100]) ∧ Below w.heap.size w w') := fun w => plain_any 7 w
  have HSQ : Hid (∀ wr G L, Dn w wr G (Dsk.new 3) L 0 → Calls Try.prog 21 #[.pointer (some ⟨G, 0, none⟩), .int .i64 t, .agg #[.int .u64 7, .int .u32 3, .int .u32 0, .int .u64 9, .int .u32 0, .int .i64 2, .int .i64 3, .int .i64 64, .int .u32 100]] wr fun e w' => e = .returned (.int .i64 0) ∧ Goes w wr G D0 L 4 w') := fun wr G L h => by
    have := h.store (by decide) (by decide) t (plainM 7) (plain_fit 7 (by decide))
    rw [e0] at this; exact this
  clear e0
  have hz := zero27
  go_enter Try.func6, Try.ntmps6
  go_upto_region 2 with (go_at_call 16; refine (new_some 3 (by decide) (by decide) _).mono ?_; rintro ex wa ⟨rfl, hd, hbn⟩)
  generalize hG : w.heap.size + 2 = G at hd ⊢
  have hd1 := Dn.new (Below.refl _ _) hG hd hbn
  clear hd hbn
  generalize Loc.new w.heap.size = L1 at hd1
  cases sb
  · obtain rfl : t = 0 := by simpa using hst
    clear hst ht01
    go_upto_region 5 with fail
    go_upto_region 6 with (first
      | (go_at_call 20; refine (HPSV.out _).mono ?_; clear HPSV; rintro ex w2 ⟨rfl, h2⟩
         have q3 : Row (w2.alloc (.cells #[.int .u64 0, .int .u32 0, .int .u32 0, .int .u64 0, .int .u32 0, .int .i64 0, .int .i64 0, .int .i64 0, .int .u32 0] 27)) w2.heap.size #[.int .u64 0, .int .u32 0, .int .u32 0, .int .u64 0, .int .u32 0, .int .i64 0, .int .i64 0, .int .i64 0, .int .u32 0] 27 := Row.new _ _ _)
      | (refine store_cells rfl 27 (.tmp 13) (.tmp 22) rfl w2.heap.size #[.int .u64 7, .int .u32 3, .int .u32 0, .int .u64 9, .int .u32 0, .int .i64 2, .int .i64 3, .int .i64 64, .int .u32 100] rfl rfl 27 _ q3 9 size27 rfl rfl (by simp [Value.oneCell']) ?_))
    have q3 := q3.set #[.int .u64 7, .int .u32 3, .int .u32 0, .int .u64 9, .int .u32 0, .int .i64 2, .int .i64 3, .int .i64 64, .int .u32 100]
    have hd2 := hd1.down h2
    have n3 := hd2.fresh
    have hd2 := (hd2.down ((Below.refl _ _).alloc (Nat.le_refl _) (.cells #[.int .u64 0, .int .u32 0, .int .u32 0, .int .u64 0, .int .u32 0, .int .i64 0, .int .i64 0, .int .i64 0, .int .u32 0] 27))).put w2.heap.size #[.int .u64 7, .int .u32 3, .int .u32 0, .int .u64 9, .int .u32 0, .int .i64 2, .int .i64 3, .int .i64 64, .int .u32 100] n3 hd2.be.size
    have hg3 := (hd1.down h2).be.size
    clear hd1 h2
    show Code.wp _ _ _ _ ((w2.alloc (.cells #[.int .u64 0, .int .u32 0, .int .u32 0, .int .u64 0, .int .u32 0, .int .i64 0, .int .i64 0, .int .i64 0, .int .u32 0] 27)).setRow w2.heap.size #[.int .u64 7, .int .u32 3, .int .u32 0, .int .u64 9, .int .u32 0, .int .i64 2, .int .i64 3, .int .i64 64, .int .u32 100])
    generalize (w2.alloc (.cells #[.int .u64 0, .int .u32 0, .int .u32 0, .int .u64 0, .int .u32 0, .int .i64 0, .int .i64 0, .int .i64 0, .int .u32 0] 27)).setRow w2.heap.size #[.int .u64 7, .int .u32 3, .int .u32 0, .int .u64 9, .int .u32 0, .int .i64 2, .int .i64 3, .int .i64 64, .int .u32 100] = w3 at q3 hd2 ⊢
    generalize w2.heap.size = g3 at q3 n3 hg3 ⊢
    go_upto_region 9 with (first
      | (refine load_cells_g rfl 27 (.tmp 13) rfl g3 rfl 27 #[.int .u64 7, .int .u32 3, .int .u32 0, .int .u64 9, .int .u32 0, .int .i64 2, .int .i64 3, .int .i64 64, .int .u32 100] q3 9 Try.underlying27 rfl size27 rfl ?_)
      | (go_at_call 21; refine (HSQ.out _ _ _ hd2).mono ?_; clear HSQ; rintro ex w4 ⟨rfl, L4, hd4, hk4⟩))
    have q4 := hk4 _ _ _ q3 n3
    clear hk4 hd2 n3 q3
    have ht5 : 0 ≤ T ∧ T ≤ 5 := by omega
    have ho4 : 0 ≤ O ∧ O ≤ 4 := by omega
    have hf4 : 1 ≤ F ∧ F ≤ 4 := by omega
    have tm1 : Int.tmod ti 6 = T := by rw [Int.tmod_eq_emod_of_nonneg hti.1]; exact HT
    have tm2 : Int.tmod mo 5 = O := by rw [Int.tmod_eq_emod_of_nonneg hmo.1]; exact HO
    have tm3 : Int.tmod fu 4 = F - 1 := by rw [Int.tmod_eq_emod_of_nonneg hfu.1]; omega
    have wt1 : IntKind.i64.wrap T = T := by rw [IntKind.wrap_i64]; omega
    have wt2 : IntKind.u8.wrap T = T := by rw [IntKind.wrap_u8]; omega
    have wt3 : IntKind.u8.wrap O = O := by rw [IntKind.wrap_u8]; omega
    have wt4 : IntKind.u64.wrap O = O := by rw [IntKind.wrap_u64]; omega
    have wt5 : IntKind.i64.wrap fu = fu := by rw [IntKind.wrap_i64]; omega
    have wt6 : IntKind.i64.wrap (F - 1) = F - 1 := by rw [IntKind.wrap_i64]; omega
    have wt7 : IntKind.i64.wrap (1 + (F - 1)) = F := by rw [IntKind.wrap_i64]; omega
    go_loopw [12, 14] (fun a i wr => ∃ (k : Nat) (D : Dsk) (f : Secs) (old : M) (t : Int) (L : Loc), i = .int .i64 k ∧ a = .int .i64 t ∧ (k : Int) ≤ T + 1 ∧ Rest D f ∧ CInv f old t bl F ∧ Dn w wr G D L (4 * (k + 1)) ∧ Row wr g3 (mcells old) 27 ∧ ¬ foot G L g3 ∧ old.seq ≤ 7 + 5 * k) (fun _ i _ => 7 - (intOf i).toNat)
    case atStart => exact ⟨0, D0, f0, plainM 7, 0, L4, rfl, rfl, by omega, hR0, hC0, hd4, q4.1, q4.2, by decide⟩
    case round =>
      clear q4 hd4 hR0 hC0
      obtain ⟨k, D, f, old, t, L, rfl, rfl, hkT, hR, hC, hd, r3, n3, hsq⟩ := hrel
      by_cases hle : (k : Int) ≤ T
      · skip
        obtain ⟨q, hq⟩ : ∃ q, old.seq + 1 + O = q := ⟨_, rfl⟩
        have hlow := hC.low
        have hk6 : (k : Int) ≤ 5 := by omega
        have hnf : (nxM q k).Fit := ⟨by show 0 ≤ q ∧ _; exact ⟨by omega, by show q ≤ _; omega⟩, ⟨by show (0 : Int) ≤ k; omega, by show (k : Int) ≤ _; omega⟩, by simp [nxM], by simp [nxM], by simp [nxM], by simp [nxM], by simp [nxM], by simp [nxM], by simp [nxM]⟩
        have hns : old.seq < (nxM q k).seq := by show _ < q; omega
        obtain ⟨E, D1, D3, g, m', t', es, eo, el, ed, hR', hC', hout⟩ := hC.round hf4.1 hnf (nx_may q k) hns hR
        have ht01 := hC.t01
        have htw : IntKind.i64.wrap (1 - t) = 1 - t := by rw [IntKind.wrap_i64]; omega
        have hte : (t == 1 - t) = false := by simp; omega
        have HPLN : Hid (∀ w, Calls Try.prog 20 #[.int .u64 q] w fun e w' => e = .returned (.agg #[.int .u64 q, .int .u32 3, .int .u32 0, .int .u64 9, .int .u32 0, .int .i64 2, .int .i64 3, .int .i64 64, .int .u32 100]) ∧ Below w.heap.size w w') := fun w => plain_any q w
        have HPL : Hid (∀ wr L, Dn w wr G D L (4 * (k + 1)) → Calls Try.prog 18 #[.pointer (some ⟨G, 0, none⟩), .slice none 0 0, .int .i64 F] wr fun e w' => e = .returned (.tuple #[]) ∧ Goes w wr G (D.plan [] F) L (4 * (k + 1)) w') := fun wr L h => h.plan (.slice none 0 0) [] (Or.inl ⟨rfl, rfl⟩) (fun a n c e => by cases e) (fun z hz => by cases hz) (by decide) F (wf_of (by omega) (by omega))
        have HST : Hid (∀ wr L, Dn w wr G (D.plan [] F) L (4 * (k + 1)) → Calls Try.prog 21 #[.pointer (some ⟨G, 0, none⟩), .int .i64 (1 - t), .agg #[.int .u64 q, .int .u32 (k : Int), .int .u32 0, .int .u64 9, .int .u32 0, .int .i64 2, .int .i64 3, .int .i64 64, .int .u32 100]] wr fun e w' => e = .returned (.int .i64 E) ∧ Goes w wr G D1 L (4 * (k + 1) + 4) w') := fun wr L h => by
          have := h.store (by show (0 : Int) < _; decide) (by omega) (1 - t) (nxM q k) hnf
          rw [es] at this; exact this
        have HCR : Hid (∀ wr L u, Dn w wr G D1 L (4 * (k + 1) + 4) → Cel wr u (bl.map .bool) → (∀ a n c, u = .slice (some a) n c → ¬ foot G L a.block) → Calls Try.prog 22 #[.pointer (some ⟨G, 0, none⟩), u] wr fun e w' => e = .returned (.tuple #[]) ∧ Goes w wr G (D1.crash bl) L (4 * (k + 1) + 4) w') := fun wr L u h hc hn => h.crash u bl hc hn
        have HLD : Hid (∀ wr L, Dn w wr G (D1.crash bl) L (4 * (k + 1) + 4) → Calls Try.prog 19 #[.pointer (some ⟨G, 0, none⟩)] wr fun e w' => e = .returned (.tuple #[.agg (mcells m'), .int .i64 t', .int .i64 0]) ∧ Goes w wr G D3 L (4 * (k + 1) + 4) w') := fun wr L h => by
          have := h.load (by show (0 : Int) < _; decide)
          rw [el, ed] at this; exact this
        have HSQ2 : Hid (old.seq ≤ 7 + 5 * (k : Int)) := hsq
        have HQ2 : Hid (q = old.seq + 1 + O) := hq.symm
        have wq1 : IntKind.u64.wrap (old.seq + 1) = old.seq + 1 := by rw [IntKind.wrap_u64]; omega
        have wq2 : IntKind.u64.wrap (old.seq + 1 + O) = q := by rw [IntKind.wrap_u64]; omega
        have wq3 : IntKind.u32.wrap (k : Int) = k := by rw [IntKind.wrap_u32]; omega
        clear es eo el ed hC hR hns hlow hkT hq hsq
        have c0 := row_at r3 0 (.int .u64 old.seq) rfl
        go_upto_region 12 with (first
          | (go_at_call 20; refine (HPLN.out _).mono ?_; clear HPLN; rintro ex w5 ⟨rfl, h5⟩
             have r5 : Row (w5.alloc (.cells #[.int .u64 0, .int .u32 0, .int .u32 0, .int .u64 0, .int .u32 0, .int .i64 0, .int .i64 0, .int .i64 0, .int .u32 0] 27)) w5.heap.size #[.int .u64 0, .int .u32 0, .int .u32 0, .int .u64 0, .int .u32 0, .int .i64 0, .int .i64 0, .int .i64 0, .int .u32 0] 27 := Row.new _ _ _)
          | (refine store_cells rfl 27 (.tmp 15) (.tmp 46) rfl w5.heap.size #[.int .u64 q, .int .u32 3, .int .u32 0, .int .u64 9, .int .u32 0, .int .i64 2, .int .i64 3, .int .i64 64, .int .u32 100] rfl rfl 27 _ r5 9 size27 rfl rfl (by simp [Value.oneCell']) ?_))
        clear c0 wq1 wq2
        have r3 := r3.below h5 r3.lt
        have l5 := r3.lt
        have hd5 := hd.down h5
        have n5 := hd5.fresh
        have b5 := hd5.be.size
        have r3 := (r3.alloc (.cells #[.int .u64 0, .int .u32 0, .int .u32 0, .int .u64 0, .int .u32 0, .int .i64 0, .int .i64 0, .int .i64 0, .int .u32 0] 27)).other (g := w5.heap.size) (by omega) #[.int .u64 q, .int .u32 3, .int .u32 0, .int .u64 9, .int .u32 0, .int .i64 2, .int .i64 3, .int .i64 64, .int .u32 100]
        have r5 := r5.set #[.int .u64 q, .int .u32 3, .int .u32 0, .int .u64 9, .int .u32 0, .int .i64 2, .int .i64 3, .int .i64 64, .int .u32 100]
        have hd5 := (hd5.down ((Below.refl _ _).alloc (Nat.le_refl _) (.cells #[.int .u64 0, .int .u32 0, .int .u32 0, .int .u64 0, .int .u32 0, .int .i64 0, .int .i64 0, .int .i64 0, .int .u32 0] 27))).put w5.heap.size #[.int .u64 q, .int .u32 3, .int .u32 0, .int .u64 9, .int .u32 0, .int .i64 2, .int .i64 3, .int .i64 64, .int .u32 100] n5 b5
        clear hd h5
        show Code.wp _ _ _ _ ((w5.alloc (.cells #[.int .u64 0, .int .u32 0, .int .u32 0, .int .u64 0, .int .u32 0, .int .i64 0, .int .i64 0, .int .i64 0, .int .u32 0] 27)).setRow w5.heap.size #[.int .u64 q, .int .u32 3, .int .u32 0, .int .u64 9, .int .u32 0, .int .i64 2, .int .i64 3, .int .i64 64, .int .u32 100])
        generalize (w5.alloc (.cells #[.int .u64 0, .int .u32 0, .int .u32 0, .int .u64 0, .int .u32 0, .int .i64 0, .int .i64 0, .int .i64 0, .int .u32 0] 27)).setRow w5.heap.size #[.int .u64 q, .int .u32 3, .int .u32 0, .int .u64 9, .int .u32 0, .int .i64 2, .int .i64 3, .int .i64 64, .int .u32 100] = w6 at r3 r5 hd5 ⊢
        obtain ⟨g5, hg5⟩ : ∃ g, w5.heap.size = g := ⟨_, rfl⟩
        rw [hg5] at r5 n5 l5 b5 ⊢
        clear hg5
        have c1 := row_at r5 1 (.int .u32 3) rfl
        have f1 := row_frozen r5 1
        have r3 := row_setCell_other r3 (show g3 ≠ g5 by omega) 1 (.int .u32 (k : Int))
        have hd6 := dn_cell hd5 g5 1 (.int .u32 (k : Int)) n5 b5
        have r5' : Row (w6.setCell ⟨g5, 1, none⟩ (.int .u32 (k : Int))) g5 #[.int .u64 q, .int .u32 (k : Int), .int .u32 0, .int .u64 9, .int .u32 0, .int .i64 2, .int .i64 3, .int .i64 64, .int .u32 100] 27 := row_set r5 1 _
        go_upto_region 13 with fail
        clear c1 f1 r5 hd5 wq3
        generalize w6.setCell ⟨g5, 1, none⟩ (.int .u32 (k : Int)) = w7 at r3 r5' hd6 ⊢
        go_upto_region 14 with (go_at_call 18; refine (HPL.out _ _ hd6).mono ?_; clear HPL; rintro ex w8 ⟨rfl, L8, hd8, hk8⟩)
        have x3 := hk8 _ _ _ r3 n3
        have x5 := hk8 _ _ _ r5' n5
        clear r3 r5' n3 n5 hk8 hd6
        go_upto_region 15 with (first
          | (refine load_cells rfl 27 (.tmp 15) rfl g5 rfl 27 #[.int .u64 q, .int .u32 (k : Int), .int .u32 0, .int .u64 9, .int .u32 0, .int .i64 2, .int .i64 3, .int .i64 64, .int .u32 100] x5.1 9 Try.underlying27 rfl size27 rfl ?_)
          | (go_at_call 21; refine (HST.out _ _ hd8).mono ?_; clear HST; rintro ex w9 ⟨rfl, L9, hd9, hk9⟩))
        have y3 := hk9 _ _ _ x3.1 x3.2
        have y5 := hk9 _ _ _ x5.1 x5.2
        clear x3 x5 hk9 hd8
        have hcel := hv.keep hd9.be
        obtain ⟨i4, hi4, hz4, hs4, hb4⟩ := info_parts info4
        have HRC : Hid _ := fun ty => run_copy (P := Try.prog) w9 50 ty 4 i4 _ 1 Try.underlying50 hi4 hz4 hs4 hb4 rfl v (bl.map .bool) hcel (by intro u hu; obtain ⟨b, _, rfl⟩ := List.mem_map.1 hu; rfl) (by simpa using hbl) (by decide)
        go_upto_region 16 with (first
          | (at_builtin; refine wpList_copy rfl (.tmp 62) (.tmp 63) 50 rfl _ _ rfl rfl (T := fun v' w' => Cel w' v' (bl.map .bool) ∧ High w9.heap.size v' ∧ Below w9.heap.size w9 w') (fun ty => HRC.out ty) ?_; clear HRC; intro v' wc hT)
          | (go_at_call 22; refine (HCR.out _ _ _ (hd9.down hT.2.2) hT.1 (fun a n c e q => by have := hT.2.1 a n c e; have := hd9.at_.lt q; omega)).mono ?_; clear HCR; rintro ex wd ⟨rfl, Ld, hdd, hkd⟩))
        have z3 := hkd _ _ _ (y3.1.below hT.2.2 y3.1.lt) y3.2
        have z5 := hkd _ _ _ (y5.1.below hT.2.2 y5.1.lt) y5.2
        clear y3 y5 hkd hd9 hcel hT
        rcases hout with ⟨rfl, rfl, hE⟩ | ⟨rfl, rfl⟩
        · have heo : ∀ w, (Op.equalIn 10000 27 (.agg #[.int .u64 m'.seq, .int .u32 m'.ep, .int .u32 m'.tail, .int .u64 m'.lsn, .int .u32 m'.last, .int .i64 m'.pg, .int .i64 m'.un, .int .i64 m'.lg, .int .u32 m'.mx]) (.agg #[.int .u64 m'.seq, .int .u32 m'.ep, .int .u32 m'.tail, .int .u64 m'.lsn, .int .u32 m'.last, .int .i64 m'.pg, .int .i64 m'.un, .int .i64 m'.lg, .int .u32 m'.mx])).run Try.prog w = .ok true w := fun w => by
            have := equal27 m' m' w
            rw [eqM_self] at this; exact this
          have hen : ∀ w, (Op.equalIn 10000 27 (.agg #[.int .u64 m'.seq, .int .u32 m'.ep, .int .u32 m'.tail, .int .u64 m'.lsn, .int .u32 m'.last, .int .i64 m'.pg, .int .i64 m'.un, .int .i64 m'.lg, .int .u32 m'.mx]) (.agg #[.int .u64 q, .int .u32 (k : Int), .int .u32 0, .int .u64 9, .int .u32 0, .int .i64 2, .int .i64 3, .int .i64 64, .int .u32 100])).run Try.prog w = .ok false w := fun w => by
            have := equal27 m' (nxM q k) w
            rw [eqM_ne (show m'.seq ≠ q by have := HQ2.out; omega)] at this; exact this
          have hE' : (E == 0) = false := by simpa using hE
          go_upto_region 17 with (first
            | (go_at_call 19; refine (HLD.out _ _ hdd).mono ?_; clear HLD; rintro ex we ⟨rfl, Le, hde, hke⟩
               have r7 : Row (we.alloc (.cells #[.int .u64 0, .int .u32 0, .int .u32 0, .int .u64 0, .int .u32 0, .int .i64 0, .int .i64 0, .int .i64 0, .int .u32 0] 27)) we.heap.size #[.int .u64 0, .int .u32 0, .int .u32 0, .int .u64 0, .int .u32 0, .int .i64 0, .int .i64 0, .int .i64 0, .int .u32 0] 27 := Row.new _ _ _)
            | (refine store_cells rfl 27 (.tmp 17) (.tmp 69) rfl we.heap.size #[.int .u64 m'.seq, .int .u32 m'.ep, .int .u32 m'.tail, .int .u64 m'.lsn, .int .u32 m'.last, .int .i64 m'.pg, .int .i64 m'.un, .int .i64 m'.lg, .int .u32 m'.mx] rfl rfl 27 _ r7 9 size27 rfl rfl (by simp [Value.oneCell']) ?_))
          have u3 := hke _ _ _ z3.1 z3.2
          have u5 := hke _ _ _ z5.1 z5.2
          have r3 := u3.1
          have r5 := u5.1
          have n3 := u3.2
          clear z3 z5 u3 u5 hke hdd
          have l3 := r3.lt
          have l5 := r5.lt
          have n7 := hde.fresh
          have b7 := hde.be.size
          have r3 := (r3.alloc (.cells #[.int .u64 0, .int .u32 0, .int .u32 0, .int .u64 0, .int .u32 0, .int .i64 0, .int .i64 0, .int .i64 0, .int .u32 0] 27)).other (g := we.heap.size) (by omega) #[.int .u64 m'.seq, .int .u32 m'.ep, .int .u32 m'.tail, .int .u64 m'.lsn, .int .u32 m'.last, .int .i64 m'.pg, .int .i64 m'.un, .int .i64 m'.lg, .int .u32 m'.mx]
          have r5 := (r5.alloc (.cells #[.int .u64 0, .int .u32 0, .int .u32 0, .int .u64 0, .int .u32 0, .int .i64 0, .int .i64 0, .int .i64 0, .int .u32 0] 27)).other (g := we.heap.size) (by omega) #[.int .u64 m'.seq, .int .u32 m'.ep, .int .u32 m'.tail, .int .u64 m'.lsn, .int .u32 m'.last, .int .i64 m'.pg, .int .i64 m'.un, .int .i64 m'.lg, .int .u32 m'.mx]
          have r7 := r7.set #[.int .u64 m'.seq, .int .u32 m'.ep, .int .u32 m'.tail, .int .u64 m'.lsn, .int .u32 m'.last, .int .i64 m'.pg, .int .i64 m'.un, .int .i64 m'.lg, .int .u32 m'.mx]
          have hd7 := (hde.down ((Below.refl _ _).alloc (Nat.le_refl _) (.cells #[.int .u64 0, .int .u32 0, .int .u32 0, .int .u64 0, .int .u32 0, .int .i64 0, .int .i64 0, .int .i64 0, .int .u32 0] 27))).put we.heap.size #[.int .u64 m'.seq, .int .u32 m'.ep, .int .u32 m'.tail, .int .u64 m'.lsn, .int .u32 m'.last, .int .i64 m'.pg, .int .i64 m'.un, .int .i64 m'.lg, .int .u32 m'.mx] n7 b7
          clear hde
          show Code.wp _ _ _ _ ((we.alloc (.cells #[.int .u64 0, .int .u32 0, .int .u32 0, .int .u64 0, .int .u32 0, .int .i64 0, .int .i64 0, .int .i64 0, .int .u32 0] 27)).setRow we.heap.size #[.int .u64 m'.seq, .int .u32 m'.ep, .int .u32 m'.tail, .int .u64 m'.lsn, .int .u32 m'.last, .int .i64 m'.pg, .int .i64 m'.un, .int .i64 m'.lg, .int .u32 m'.mx])
          generalize (we.alloc (.cells #[.int .u64 0, .int .u32 0, .int .u32 0, .int .u64 0, .int .u32 0, .int .i64 0, .int .i64 0, .int .i64 0, .int .u32 0] 27)).setRow we.heap.size #[.int .u64 m'.seq, .int .u32 m'.ep, .int .u32 m'.tail, .int .u64 m'.lsn, .int .u32 m'.last, .int .i64 m'.pg, .int .i64 m'.un, .int .i64 m'.lg, .int .u32 m'.mx] = wf at r3 r5 r7 hd7 ⊢
          obtain ⟨g7, hg7⟩ : ∃ g, we.heap.size = g := ⟨_, rfl⟩
          rw [hg7] at r7 n7 b7 l3 l5 ⊢
          clear hg7
          have x3 := r3.set #[.int .u64 m'.seq, .int .u32 m'.ep, .int .u32 m'.tail, .int .u64 m'.lsn, .int .u32 m'.last, .int .i64 m'.pg, .int .i64 m'.un, .int .i64 m'.lg, .int .u32 m'.mx]
          have hd8 := hd7.put g3 #[.int .u64 m'.seq, .int .u32 m'.ep, .int .u32 m'.tail, .int .u64 m'.lsn, .int .u32 m'.last, .int .i64 m'.pg, .int .i64 m'.un, .int .i64 m'.lg, .int .u32 m'.mx] n3 hg3
          go_wp2_with (first
            | (refine load_cells_g rfl 27 (.tmp 17) rfl g7 rfl 27 #[.int .u64 m'.seq, .int .u32 m'.ep, .int .u32 m'.tail, .int .u64 m'.lsn, .int .u32 m'.last, .int .i64 m'.pg, .int .i64 m'.un, .int .i64 m'.lg, .int .u32 m'.mx] r7 9 Try.underlying27 rfl size27 rfl ?_)
            | (refine load_cells_g rfl 27 (.tmp 13) rfl g3 rfl 27 #[.int .u64 m'.seq, .int .u32 m'.ep, .int .u32 m'.tail, .int .u64 m'.lsn, .int .u32 m'.last, .int .i64 m'.pg, .int .i64 m'.un, .int .i64 m'.lg, .int .u32 m'.mx] r3 9 Try.underlying27 rfl size27 rfl ?_)
            | (refine load_cells_g rfl 27 (.tmp 15) rfl g5 rfl 27 #[.int .u64 q, .int .u32 (k : Int), .int .u32 0, .int .u64 9, .int .u32 0, .int .i64 2, .int .i64 3, .int .i64 64, .int .u32 100] r5 9 Try.underlying27 rfl size27 rfl ?_)
            | (refine store_cells rfl 27 (.tmp 13) (.tmp 103) rfl g3 #[.int .u64 m'.seq, .int .u32 m'.ep, .int .u32 m'.tail, .int .u64 m'.lsn, .int .u32 m'.last, .int .i64 m'.pg, .int .i64 m'.un, .int .i64 m'.lg, .int .u32 m'.mx] rfl rfl 27 _ r3 9 size27 rfl rfl (by simp [Value.oneCell']) ?_))
          go_roundw
          case rel => exact ⟨k + 1, D3, g, m', t', Le, by go_num, rfl, by omega, hR', hC', by rw [show 4 * (k + 1 + 1) = 4 * (k + 1) + 4 by omega]; exact hd8, x3, n3, by have h1 := HSQ2.out; have h2 := HQ2.out; show m'.seq ≤ _; push_cast; omega⟩
          case measure => simp [intOf]; omega
        · have heo : ∀ w, (Op.equalIn 10000 27 (.agg #[.int .u64 q, .int .u32 (k : Int), .int .u32 0, .int .u64 9, .int .u32 0, .int .i64 2, .int .i64 3, .int .i64 64, .int .u32 100]) (.agg #[.int .u64 old.seq, .int .u32 old.ep, .int .u32 old.tail, .int .u64 old.lsn, .int .u32 old.last, .int .i64 old.pg, .int .i64 old.un, .int .i64 old.lg, .int .u32 old.mx])).run Try.prog w = .ok false w := fun w => by
            have := equal27 (nxM q k) old w
            rw [eqM_ne (show q ≠ old.seq by have := HQ2.out; omega)] at this; exact this
          have hen : ∀ w, (Op.equalIn 10000 27 (.agg #[.int .u64 q, .int .u32 (k : Int), .int .u32 0, .int .u64 9, .int .u32 0, .int .i64 2, .int .i64 3, .int .i64 64, .int .u32 100]) (.agg #[.int .u64 q, .int .u32 (k : Int), .int .u32 0, .int .u64 9, .int .u32 0, .int .i64 2, .int .i64 3, .int .i64 64, .int .u32 100])).run Try.prog w = .ok true w := fun w => by
            have := equal27 (nxM q k) (nxM q k) w
            rw [eqM_self] at this; exact this
          by_cases hE : E = 0
          · subst hE
            go_upto_region 17 with (first
              | (go_at_call 19; refine (HLD.out _ _ hdd).mono ?_; clear HLD; rintro ex we ⟨rfl, Le, hde, hke⟩
                 have r7 : Row (we.alloc (.cells #[.int .u64 0, .int .u32 0, .int .u32 0, .int .u64 0, .int .u32 0, .int .i64 0, .int .i64 0, .int .i64 0, .int .u32 0] 27)) we.heap.size #[.int .u64 0, .int .u32 0, .int .u32 0, .int .u64 0, .int .u32 0, .int .i64 0, .int .i64 0, .int .i64 0, .int .u32 0] 27 := Row.new _ _ _)
              | (refine store_cells rfl 27 (.tmp 17) (.tmp 69) rfl we.heap.size #[.int .u64 q, .int .u32 (k : Int), .int .u32 0, .int .u64 9, .int .u32 0, .int .i64 2, .int .i64 3, .int .i64 64, .int .u32 100] rfl rfl 27 _ r7 9 size27 rfl rfl (by simp [Value.oneCell']) ?_))
            have u3 := hke _ _ _ z3.1 z3.2
            have u5 := hke _ _ _ z5.1 z5.2
            have r3 := u3.1
            have r5 := u5.1
            have n3 := u3.2
            clear z3 z5 u3 u5 hke hdd
            have l3 := r3.lt
            have l5 := r5.lt
            have n7 := hde.fresh
            have b7 := hde.be.size
            have r3 := (r3.alloc (.cells #[.int .u64 0, .int .u32 0, .int .u32 0, .int .u64 0, .int .u32 0, .int .i64 0, .int .i64 0, .int .i64 0, .int .u32 0] 27)).other (g := we.heap.size) (by omega) #[.int .u64 q, .int .u32 (k : Int), .int .u32 0, .int .u64 9, .int .u32 0, .int .i64 2, .int .i64 3, .int .i64 64, .int .u32 100]
            have r5 := (r5.alloc (.cells #[.int .u64 0, .int .u32 0, .int .u32 0, .int .u64 0, .int .u32 0, .int .i64 0, .int .i64 0, .int .i64 0, .int .u32 0] 27)).other (g := we.heap.size) (by omega) #[.int .u64 q, .int .u32 (k : Int), .int .u32 0, .int .u64 9, .int .u32 0, .int .i64 2, .int .i64 3, .int .i64 64, .int .u32 100]
            have r7 := r7.set #[.int .u64 q, .int .u32 (k : Int), .int .u32 0, .int .u64 9, .int .u32 0, .int .i64 2, .int .i64 3, .int .i64 64, .int .u32 100]
            have hd7 := (hde.down ((Below.refl _ _).alloc (Nat.le_refl _) (.cells #[.int .u64 0, .int .u32 0, .int .u32 0, .int .u64 0, .int .u32 0, .int .i64 0, .int .i64 0, .int .i64 0, .int .u32 0] 27))).put we.heap.size #[.int .u64 q, .int .u32 (k : Int), .int .u32 0, .int .u64 9, .int .u32 0, .int .i64 2, .int .i64 3, .int .i64 64, .int .u32 100] n7 b7
            clear hde
            show Code.wp _ _ _ _ ((we.alloc (.cells #[.int .u64 0, .int .u32 0, .int .u32 0, .int .u64 0, .int .u32 0, .int .i64 0, .int .i64 0, .int .i64 0, .int .u32 0] 27)).setRow we.heap.size #[.int .u64 q, .int .u32 (k : Int), .int .u32 0, .int .u64 9, .int .u32 0, .int .i64 2, .int .i64 3, .int .i64 64, .int .u32 100])
            generalize (we.alloc (.cells #[.int .u64 0, .int .u32 0, .int .u32 0, .int .u64 0, .int .u32 0, .int .i64 0, .int .i64 0, .int .i64 0, .int .u32 0] 27)).setRow we.heap.size #[.int .u64 q, .int .u32 (k : Int), .int .u32 0, .int .u64 9, .int .u32 0, .int .i64 2, .int .i64 3, .int .i64 64, .int .u32 100] = wf at r3 r5 r7 hd7 ⊢
            obtain ⟨g7, hg7⟩ : ∃ g, we.heap.size = g := ⟨_, rfl⟩
            rw [hg7] at r7 n7 b7 l3 l5 ⊢
            clear hg7
            have x3 := r3.set #[.int .u64 q, .int .u32 (k : Int), .int .u32 0, .int .u64 9, .int .u32 0, .int .i64 2, .int .i64 3, .int .i64 64, .int .u32 100]
            have hd8 := hd7.put g3 #[.int .u64 q, .int .u32 (k : Int), .int .u32 0, .int .u64 9, .int .u32 0, .int .i64 2, .int .i64 3, .int .i64 64, .int .u32 100] n3 hg3
            go_wp2_with (first
              | (refine load_cells_g rfl 27 (.tmp 17) rfl g7 rfl 27 #[.int .u64 q, .int .u32 (k : Int), .int .u32 0, .int .u64 9, .int .u32 0, .int .i64 2, .int .i64 3, .int .i64 64, .int .u32 100] r7 9 Try.underlying27 rfl size27 rfl ?_)
              | (refine load_cells_g rfl 27 (.tmp 13) rfl g3 rfl 27 #[.int .u64 old.seq, .int .u32 old.ep, .int .u32 old.tail, .int .u64 old.lsn, .int .u32 old.last, .int .i64 old.pg, .int .i64 old.un, .int .i64 old.lg, .int .u32 old.mx] r3 9 Try.underlying27 rfl size27 rfl ?_)
              | (refine load_cells_g rfl 27 (.tmp 15) rfl g5 rfl 27 #[.int .u64 q, .int .u32 (k : Int), .int .u32 0, .int .u64 9, .int .u32 0, .int .i64 2, .int .i64 3, .int .i64 64, .int .u32 100] r5 9 Try.underlying27 rfl size27 rfl ?_)
              | (refine store_cells rfl 27 (.tmp 13) (.tmp 103) rfl g3 #[.int .u64 q, .int .u32 (k : Int), .int .u32 0, .int .u64 9, .int .u32 0, .int .i64 2, .int .i64 3, .int .i64 64, .int .u32 100] rfl rfl 27 _ r3 9 size27 rfl rfl (by simp [Value.oneCell']) ?_))
            go_roundw
            case rel => exact ⟨k + 1, D3, g, nxM q k, 1 - t, Le, by go_num, rfl, by omega, hR', hC', by rw [show 4 * (k + 1 + 1) = 4 * (k + 1) + 4 by omega]; exact hd8, x3, n3, by have h1 := HSQ2.out; have h2 := HQ2.out; show q ≤ _; push_cast; omega⟩
            case measure => simp [intOf]; omega
          · have hE' : (E == 0) = false := by simpa using hE
            go_upto_region 17 with (first
              | (go_at_call 19; refine (HLD.out _ _ hdd).mono ?_; clear HLD; rintro ex we ⟨rfl, Le, hde, hke⟩
                 have r7 : Row (we.alloc (.cells #[.int .u64 0, .int .u32 0, .int .u32 0, .int .u64 0, .int .u32 0, .int .i64 0, .int .i64 0, .int .i64 0, .int .u32 0] 27)) we.heap.size #[.int .u64 0, .int .u32 0, .int .u32 0, .int .u64 0, .int .u32 0, .int .i64 0, .int .i64 0, .int .i64 0, .int .u32 0] 27 := Row.new _ _ _)
              | (refine store_cells rfl 27 (.tmp 17) (.tmp 69) rfl we.heap.size #[.int .u64 q, .int .u32 (k : Int), .int .u32 0, .int .u64 9, .int .u32 0, .int .i64 2, .int .i64 3, .int .i64 64, .int .u32 100] rfl rfl 27 _ r7 9 size27 rfl rfl (by simp [Value.oneCell']) ?_))
            have u3 := hke _ _ _ z3.1 z3.2
            have u5 := hke _ _ _ z5.1 z5.2
            have r3 := u3.1
            have r5 := u5.1
            have n3 := u3.2
            clear z3 z5 u3 u5 hke hdd
            have l3 := r3.lt
            have l5 := r5.lt
            have n7 := hde.fresh
            have b7 := hde.be.size
            have r3 := (r3.alloc (.cells #[.int .u64 0, .int .u32 0, .int .u32 0, .int .u64 0, .int .u32 0, .int .i64 0, .int .i64 0, .int .i64 0, .int .u32 0] 27)).other (g := we.heap.size) (by omega) #[.int .u64 q, .int .u32 (k : Int), .int .u32 0, .int .u64 9, .int .u32 0, .int .i64 2, .int .i64 3, .int .i64 64, .int .u32 100]
            have r5 := (r5.alloc (.cells #[.int .u64 0, .int .u32 0, .int .u32 0, .int .u64 0, .int .u32 0, .int .i64 0, .int .i64 0, .int .i64 0, .int .u32 0] 27)).other (g := we.heap.size) (by omega) #[.int .u64 q, .int .u32 (k : Int), .int .u32 0, .int .u64 9, .int .u32 0, .int .i64 2, .int .i64 3, .int .i64 64, .int .u32 100]
            have r7 := r7.set #[.int .u64 q, .int .u32 (k : Int), .int .u32 0, .int .u64 9, .int .u32 0, .int .i64 2, .int .i64 3, .int .i64 64, .int .u32 100]
            have hd7 := (hde.down ((Below.refl _ _).alloc (Nat.le_refl _) (.cells #[.int .u64 0, .int .u32 0, .int .u32 0, .int .u64 0, .int .u32 0, .int .i64 0, .int .i64 0, .int .i64 0, .int .u32 0] 27))).put we.heap.size #[.int .u64 q, .int .u32 (k : Int), .int .u32 0, .int .u64 9, .int .u32 0, .int .i64 2, .int .i64 3, .int .i64 64, .int .u32 100] n7 b7
            clear hde
            show Code.wp _ _ _ _ ((we.alloc (.cells #[.int .u64 0, .int .u32 0, .int .u32 0, .int .u64 0, .int .u32 0, .int .i64 0, .int .i64 0, .int .i64 0, .int .u32 0] 27)).setRow we.heap.size #[.int .u64 q, .int .u32 (k : Int), .int .u32 0, .int .u64 9, .int .u32 0, .int .i64 2, .int .i64 3, .int .i64 64, .int .u32 100])
            generalize (we.alloc (.cells #[.int .u64 0, .int .u32 0, .int .u32 0, .int .u64 0, .int .u32 0, .int .i64 0, .int .i64 0, .int .i64 0, .int .u32 0] 27)).setRow we.heap.size #[.int .u64 q, .int .u32 (k : Int), .int .u32 0, .int .u64 9, .int .u32 0, .int .i64 2, .int .i64 3, .int .i64 64, .int .u32 100] = wf at r3 r5 r7 hd7 ⊢
            obtain ⟨g7, hg7⟩ : ∃ g, we.heap.size = g := ⟨_, rfl⟩
            rw [hg7] at r7 n7 b7 l3 l5 ⊢
            clear hg7
            have x3 := r3.set #[.int .u64 q, .int .u32 (k : Int), .int .u32 0, .int .u64 9, .int .u32 0, .int .i64 2, .int .i64 3, .int .i64 64, .int .u32 100]
            have hd8 := hd7.put g3 #[.int .u64 q, .int .u32 (k : Int), .int .u32 0, .int .u64 9, .int .u32 0, .int .i64 2, .int .i64 3, .int .i64 64, .int .u32 100] n3 hg3
            go_wp2_with (first
              | (refine load_cells_g rfl 27 (.tmp 17) rfl g7 rfl 27 #[.int .u64 q, .int .u32 (k : Int), .int .u32 0, .int .u64 9, .int .u32 0, .int .i64 2, .int .i64 3, .int .i64 64, .int .u32 100] r7 9 Try.underlying27 rfl size27 rfl ?_)
              | (refine load_cells_g rfl 27 (.tmp 13) rfl g3 rfl 27 #[.int .u64 old.seq, .int .u32 old.ep, .int .u32 old.tail, .int .u64 old.lsn, .int .u32 old.last, .int .i64 old.pg, .int .i64 old.un, .int .i64 old.lg, .int .u32 old.mx] r3 9 Try.underlying27 rfl size27 rfl ?_)
              | (refine load_cells_g rfl 27 (.tmp 15) rfl g5 rfl 27 #[.int .u64 q, .int .u32 (k : Int), .int .u32 0, .int .u64 9, .int .u32 0, .int .i64 2, .int .i64 3, .int .i64 64, .int .u32 100] r5 9 Try.underlying27 rfl size27 rfl ?_)
              | (refine store_cells rfl 27 (.tmp 13) (.tmp 103) rfl g3 #[.int .u64 q, .int .u32 (k : Int), .int .u32 0, .int .u64 9, .int .u32 0, .int .i64 2, .int .i64 3, .int .i64 64, .int .u32 100] rfl rfl 27 _ r3 9 size27 rfl rfl (by simp [Value.oneCell']) ?_))
            go_roundw
            case rel => exact ⟨k + 1, D3, g, nxM q k, 1 - t, Le, by go_num, rfl, by omega, hR', hC', by rw [show 4 * (k + 1 + 1) = 4 * (k + 1) + 4 by omega]; exact hd8, x3, n3, by have h1 := HSQ2.out; have h2 := HQ2.out; show q ≤ _; push_cast; omega⟩
            case measure => simp [intOf]; omega
      · have wb := hd.be
        go_wp2_with (go_at_call 15; refine (HA.out _).mono ?_; clear HA; rintro ex wz ⟨rfl, hz⟩; have wb := wb.trans (hz.mono wb.size))
        go_ret
        exact ⟨rfl, wb⟩
  · obtain rfl : t = 1 := by simpa using hst
    clear hst ht01
    go_upto_region 5 with fail
    go_upto_region 6 with (first
      | (go_at_call 20; refine (HPSV.out _).mono ?_; clear HPSV; rintro ex w2 ⟨rfl, h2⟩
         have q3 : Row (w2.alloc (.cells #[.int .u64 0, .int .u32 0, .int .u32 0, .int .u64 0, .int .u32 0, .int .i64 0, .int .i64 0, .int .i64 0, .int .u32 0] 27)) w2.heap.size #[.int .u64 0, .int .u32 0, .int .u32 0, .int .u64 0, .int .u32 0, .int .i64 0, .int .i64 0, .int .i64 0, .int .u32 0] 27 := Row.new _ _ _)
      | (refine store_cells rfl 27 (.tmp 13) (.tmp 22) rfl w2.heap.size #[.int .u64 7, .int .u32 3, .int .u32 0, .int .u64 9, .int .u32 0, .int .i64 2, .int .i64 3, .int .i64 64, .int .u32 100] rfl rfl 27 _ q3 9 size27 rfl rfl (by simp [Value.oneCell']) ?_))
    have q3 := q3.set #[.int .u64 7, .int .u32 3, .int .u32 0, .int .u64 9, .int .u32 0, .int .i64 2, .int .i64 3, .int .i64 64, .int .u32 100]
    have hd2 := hd1.down h2
    have n3 := hd2.fresh
    have hd2 := (hd2.down ((Below.refl _ _).alloc (Nat.le_refl _) (.cells #[.int .u64 0, .int .u32 0, .int .u32 0, .int .u64 0, .int .u32 0, .int .i64 0, .int .i64 0, .int .i64 0, .int .u32 0] 27))).put w2.heap.size #[.int .u64 7, .int .u32 3, .int .u32 0, .int .u64 9, .int .u32 0, .int .i64 2, .int .i64 3, .int .i64 64, .int .u32 100] n3 hd2.be.size
    have hg3 := (hd1.down h2).be.size
    clear hd1 h2
    show Code.wp _ _ _ _ ((w2.alloc (.cells #[.int .u64 0, .int .u32 0, .int .u32 0, .int .u64 0, .int .u32 0, .int .i64 0, .int .i64 0, .int .i64 0, .int .u32 0] 27)).setRow w2.heap.size #[.int .u64 7, .int .u32 3, .int .u32 0, .int .u64 9, .int .u32 0, .int .i64 2, .int .i64 3, .int .i64 64, .int .u32 100])
    generalize (w2.alloc (.cells #[.int .u64 0, .int .u32 0, .int .u32 0, .int .u64 0, .int .u32 0, .int .i64 0, .int .i64 0, .int .i64 0, .int .u32 0] 27)).setRow w2.heap.size #[.int .u64 7, .int .u32 3, .int .u32 0, .int .u64 9, .int .u32 0, .int .i64 2, .int .i64 3, .int .i64 64, .int .u32 100] = w3 at q3 hd2 ⊢
    generalize w2.heap.size = g3 at q3 n3 hg3 ⊢
    go_upto_region 9 with (first
      | (refine load_cells_g rfl 27 (.tmp 13) rfl g3 rfl 27 #[.int .u64 7, .int .u32 3, .int .u32 0, .int .u64 9, .int .u32 0, .int .i64 2, .int .i64 3, .int .i64 64, .int .u32 100] q3 9 Try.underlying27 rfl size27 rfl ?_)
      | (go_at_call 21; refine (HSQ.out _ _ _ hd2).mono ?_; clear HSQ; rintro ex w4 ⟨rfl, L4, hd4, hk4⟩))
    have q4 := hk4 _ _ _ q3 n3
    clear hk4 hd2 n3 q3
    have ht5 : 0 ≤ T ∧ T ≤ 5 := by omega
    have ho4 : 0 ≤ O ∧ O ≤ 4 := by omega
    have hf4 : 1 ≤ F ∧ F ≤ 4 := by omega
    have tm1 : Int.tmod ti 6 = T := by rw [Int.tmod_eq_emod_of_nonneg hti.1]; exact HT
    have tm2 : Int.tmod mo 5 = O := by rw [Int.tmod_eq_emod_of_nonneg hmo.1]; exact HO
    have tm3 : Int.tmod fu 4 = F - 1 := by rw [Int.tmod_eq_emod_of_nonneg hfu.1]; omega
    have wt1 : IntKind.i64.wrap T = T := by rw [IntKind.wrap_i64]; omega
    have wt2 : IntKind.u8.wrap T = T := by rw [IntKind.wrap_u8]; omega
    have wt3 : IntKind.u8.wrap O = O := by rw [IntKind.wrap_u8]; omega
    have wt4 : IntKind.u64.wrap O = O := by rw [IntKind.wrap_u64]; omega
    have wt5 : IntKind.i64.wrap fu = fu := by rw [IntKind.wrap_i64]; omega
    have wt6 : IntKind.i64.wrap (F - 1) = F - 1 := by rw [IntKind.wrap_i64]; omega
    have wt7 : IntKind.i64.wrap (1 + (F - 1)) = F := by rw [IntKind.wrap_i64]; omega
    go_loopw [12, 14] (fun a i wr => ∃ (k : Nat) (D : Dsk) (f : Secs) (old : M) (t : Int) (L : Loc), i = .int .i64 k ∧ a = .int .i64 t ∧ (k : Int) ≤ T + 1 ∧ Rest D f ∧ CInv f old t bl F ∧ Dn w wr G D L (4 * (k + 1)) ∧ Row wr g3 (mcells old) 27 ∧ ¬ foot G L g3 ∧ old.seq ≤ 7 + 5 * k) (fun _ i _ => 7 - (intOf i).toNat)
    case atStart => exact ⟨0, D0, f0, plainM 7, 1, L4, rfl, rfl, by omega, hR0, hC0, hd4, q4.1, q4.2, by decide⟩
    case round =>
      clear q4 hd4 hR0 hC0
      obtain ⟨k, D, f, old, t, L, rfl, rfl, hkT, hR, hC, hd, r3, n3, hsq⟩ := hrel
      by_cases hle : (k : Int) ≤ T
      · skip
        obtain ⟨q, hq⟩ : ∃ q, old.seq + 1 + O = q := ⟨_, rfl⟩
        have hlow := hC.low
        have hk6 : (k : Int) ≤ 5 := by omega
        have hnf : (nxM q k).Fit := ⟨by show 0 ≤ q ∧ _; exact ⟨by omega, by show q ≤ _; omega⟩, ⟨by show (0 : Int) ≤ k; omega, by show (k : Int) ≤ _; omega⟩, by simp [nxM], by simp [nxM], by simp [nxM], by simp [nxM], by simp [nxM], by simp [nxM], by simp [nxM]⟩
        have hns : old.seq < (nxM q k).seq := by show _ < q; omega
        obtain ⟨E, D1, D3, g, m', t', es, eo, el, ed, hR', hC', hout⟩ := hC.round hf4.1 hnf (nx_may q k) hns hR
        have ht01 := hC.t01
        have htw : IntKind.i64.wrap (1 - t) = 1 - t := by rw [IntKind.wrap_i64]; omega
        have hte : (t == 1 - t) = false := by simp; omega
        have HPLN : Hid (∀ w, Calls Try.prog 20 #[.int .u64 q] w fun e w' => e = .returned (.agg #[.int .u64 q, .int .u32 3, .int .u32 0, .int .u64 9, .int .u32 0, .int .i64 2, .int .i64 3, .int .i64 64, .int .u32 100]) ∧ Below w.heap.size w w') := fun w => plain_any q w
        have HPL : Hid (∀ wr L, Dn w wr G D L (4 * (k + 1)) → Calls Try.prog 18 #[.pointer (some ⟨G, 0, none⟩), .slice none 0 0, .int .i64 F] wr fun e w' => e = .returned (.tuple #[]) ∧ Goes w wr G (D.plan [] F) L (4 * (k + 1)) w') := fun wr L h => h.plan (.slice none 0 0) [] (Or.inl ⟨rfl, rfl⟩) (fun a n c e => by cases e) (fun z hz => by cases hz) (by decide) F (wf_of (by omega) (by omega))
        have HST : Hid (∀ wr L, Dn w wr G (D.plan [] F) L (4 * (k + 1)) → Calls Try.prog 21 #[.pointer (some ⟨G, 0, none⟩), .int .i64 (1 - t), .agg #[.int .u64 q, .int .u32 (k : Int), .int .u32 0, .int .u64 9, .int .u32 0, .int .i64 2, .int .i64 3, .int .i64 64, .int .u32 100]] wr fun e w' => e = .returned (.int .i64 E) ∧ Goes w wr G D1 L (4 * (k + 1) + 4) w') := fun wr L h => by
          have := h.store (by show (0 : Int) < _; decide) (by omega) (1 - t) (nxM q k) hnf
          rw [es] at this; exact this
        have HCR : Hid (∀ wr L u, Dn w wr G D1 L (4 * (k + 1) + 4) → Cel wr u (bl.map .bool) → (∀ a n c, u = .slice (some a) n c → ¬ foot G L a.block) → Calls Try.prog 22 #[.pointer (some ⟨G, 0, none⟩), u] wr fun e w' => e = .returned (.tuple #[]) ∧ Goes w wr G (D1.crash bl) L (4 * (k + 1) + 4) w') := fun wr L u h hc hn => h.crash u bl hc hn
        have HLD : Hid (∀ wr L, Dn w wr G (D1.crash bl) L (4 * (k + 1) + 4) → Calls Try.prog 19 #[.pointer (some ⟨G, 0, none⟩)] wr fun e w' => e = .returned (.tuple #[.agg (mcells m'), .int .i64 t', .int .i64 0]) ∧ Goes w wr G D3 L (4 * (k + 1) + 4) w') := fun wr L h => by
          have := h.load (by show (0 : Int) < _; decide)
          rw [el, ed] at this; exact this
        have HSQ2 : Hid (old.seq ≤ 7 + 5 * (k : Int)) := hsq
        have HQ2 : Hid (q = old.seq + 1 + O) := hq.symm
        have wq1 : IntKind.u64.wrap (old.seq + 1) = old.seq + 1 := by rw [IntKind.wrap_u64]; omega
        have wq2 : IntKind.u64.wrap (old.seq + 1 + O) = q := by rw [IntKind.wrap_u64]; omega
        have wq3 : IntKind.u32.wrap (k : Int) = k := by rw [IntKind.wrap_u32]; omega
        clear es eo el ed hC hR hns hlow hkT hq hsq
        have c0 := row_at r3 0 (.int .u64 old.seq) rfl
        go_upto_region 12 with (first
          | (go_at_call 20; refine (HPLN.out _).mono ?_; clear HPLN; rintro ex w5 ⟨rfl, h5⟩
             have r5 : Row (w5.alloc (.cells #[.int .u64 0, .int .u32 0, .int .u32 0, .int .u64 0, .int .u32 0, .int .i64 0, .int .i64 0, .int .i64 0, .int .u32 0] 27)) w5.heap.size #[.int .u64 0, .int .u32 0, .int .u32 0, .int .u64 0, .int .u32 0, .int .i64 0, .int .i64 0, .int .i64 0, .int .u32 0] 27 := Row.new _ _ _)
          | (refine store_cells rfl 27 (.tmp 15) (.tmp 46) rfl w5.heap.size #[.int .u64 q, .int .u32 3, .int .u32 0, .int .u64 9, .int .u32 0, .int .i64 2, .int .i64 3, .int .i64 64, .int .u32 100] rfl rfl 27 _ r5 9 size27 rfl rfl (by simp [Value.oneCell']) ?_))
        clear c0 wq1 wq2
        have r3 := r3.below h5 r3.lt
        have l5 := r3.lt
        have hd5 := hd.down h5
        have n5 := hd5.fresh
        have b5 := hd5.be.size
        have r3 := (r3.alloc (.cells #[.int .u64 0, .int .u32 0, .int .u32 0, .int .u64 0, .int .u32 0, .int .i64 0, .int .i64 0, .int .i64 0, .int .u32 0] 27)).other (g := w5.heap.size) (by omega) #[.int .u64 q, .int .u32 3, .int .u32 0, .int .u64 9, .int .u32 0, .int .i64 2, .int .i64 3, .int .i64 64, .int .u32 100]
        have r5 := r5.set #[.int .u64 q, .int .u32 3, .int .u32 0, .int .u64 9, .int .u32 0, .int .i64 2, .int .i64 3, .int .i64 64, .int .u32 100]
        have hd5 := (hd5.down ((Below.refl _ _).alloc (Nat.le_refl _) (.cells #[.int .u64 0, .int .u32 0, .int .u32 0, .int .u64 0, .int .u32 0, .int .i64 0, .int .i64 0, .int .i64 0, .int .u32 0] 27))).put w5.heap.size #[.int .u64 q, .int .u32 3, .int .u32 0, .int .u64 9, .int .u32 0, .int .i64 2, .int .i64 3, .int .i64 64, .int .u32 100] n5 b5
        clear hd h5
        show Code.wp _ _ _ _ ((w5.alloc (.cells #[.int .u64 0, .int .u32 0, .int .u32 0, .int .u64 0, .int .u32 0, .int .i64 0, .int .i64 0, .int .i64 0, .int .u32 0] 27)).setRow w5.heap.size #[.int .u64 q, .int .u32 3, .int .u32 0, .int .u64 9, .int .u32 0, .int .i64 2, .int .i64 3, .int .i64 64, .int .u32 100])
        generalize (w5.alloc (.cells #[.int .u64 0, .int .u32 0, .int .u32 0, .int .u64 0, .int .u32 0, .int .i64 0, .int .i64 0, .int .i64 0, .int .u32 0] 27)).setRow w5.heap.size #[.int .u64 q, .int .u32 3, .int .u32 0, .int .u64 9, .int .u32 0, .int .i64 2, .int .i64 3, .int .i64 64, .int .u32 100] = w6 at r3 r5 hd5 ⊢
        obtain ⟨g5, hg5⟩ : ∃ g, w5.heap.size = g := ⟨_, rfl⟩
        rw [hg5] at r5 n5 l5 b5 ⊢
        clear hg5
        have c1 := row_at r5 1 (.int .u32 3) rfl
        have f1 := row_frozen r5 1
        have r3 := row_setCell_other r3 (show g3 ≠ g5 by omega) 1 (.int .u32 (k : Int))
        have hd6 := dn_cell hd5 g5 1 (.int .u32 (k : Int)) n5 b5
        have r5' : Row (w6.setCell ⟨g5, 1, none⟩ (.int .u32 (k : Int))) g5 #[.int .u64 q, .int .u32 (k : Int), .int .u32 0, .int .u64 9, .int .u32 0, .int .i64 2, .int .i64 3, .int .i64 64, .int .u32 100] 27 := row_set r5 1 _
        go_upto_region 13 with fail
        clear c1 f1 r5 hd5 wq3
        generalize w6.setCell ⟨g5, 1, none⟩ (.int .u32 (k : Int)) = w7 at r3 r5' hd6 ⊢
        go_upto_region 14 with (go_at_call 18; refine (HPL.out _ _ hd6).mono ?_; clear HPL; rintro ex w8 ⟨rfl, L8, hd8, hk8⟩)
        have x3 := hk8 _ _ _ r3 n3
        have x5 := hk8 _ _ _ r5' n5
        clear r3 r5' n3 n5 hk8 hd6
        go_upto_region 15 with (first
          | (refine load_cells rfl 27 (.tmp 15) rfl g5 rfl 27 #[.int .u64 q, .int .u32 (k : Int), .int .u32 0, .int .u64 9, .int .u32 0, .int .i64 2, .int .i64 3, .int .i64 64, .int .u32 100] x5.1 9 Try.underlying27 rfl size27 rfl ?_)
          | (go_at_call 21; refine (HST.out _ _ hd8).mono ?_; clear HST; rintro ex w9 ⟨rfl, L9, hd9, hk9⟩))
        have y3 := hk9 _ _ _ x3.1 x3.2
        have y5 := hk9 _ _ _ x5.1 x5.2
        clear x3 x5 hk9 hd8
        have hcel := hv.keep hd9.be
        obtain ⟨i4, hi4, hz4, hs4, hb4⟩ := info_parts info4
        have HRC : Hid _ := fun ty => run_copy (P := Try.prog) w9 50 ty 4 i4 _ 1 Try.underlying50 hi4 hz4 hs4 hb4 rfl v (bl.map .bool) hcel (by intro u hu; obtain ⟨b, _, rfl⟩ := List.mem_map.1 hu; rfl) (by simpa using hbl) (by decide)
        go_upto_region 16 with (first
          | (at_builtin; refine wpList_copy rfl (.tmp 62) (.tmp 63) 50 rfl _ _ rfl rfl (T := fun v' w' => Cel w' v' (bl.map .bool) ∧ High w9.heap.size v' ∧ Below w9.heap.size w9 w') (fun ty => HRC.out ty) ?_; clear HRC; intro v' wc hT)
          | (go_at_call 22; refine (HCR.out _ _ _ (hd9.down hT.2.2) hT.1 (fun a n c e q => by have := hT.2.1 a n c e; have := hd9.at_.lt q; omega)).mono ?_; clear HCR; rintro ex wd ⟨rfl, Ld, hdd, hkd⟩))
        have z3 := hkd _ _ _ (y3.1.below hT.2.2 y3.1.lt) y3.2
        have z5 := hkd _ _ _ (y5.1.below hT.2.2 y5.1.lt) y5.2
        clear y3 y5 hkd hd9 hcel hT
        rcases hout with ⟨rfl, rfl, hE⟩ | ⟨rfl, rfl⟩
        · have heo : ∀ w, (Op.equalIn 10000 27 (.agg #[.int .u64 m'.seq, .int .u32 m'.ep, .int .u32 m'.tail, .int .u64 m'.lsn, .int .u32 m'.last, .int .i64 m'.pg, .int .i64 m'.un, .int .i64 m'.lg, .int .u32 m'.mx]) (.agg #[.int .u64 m'.seq, .int .u32 m'.ep, .int .u32 m'.tail, .int .u64 m'.lsn, .int .u32 m'.last, .int .i64 m'.pg, .int .i64 m'.un, .int .i64 m'.lg, .int .u32 m'.mx])).run Try.prog w = .ok true w := fun w => by
            have := equal27 m' m' w
            rw [eqM_self] at this; exact this
          have hen : ∀ w, (Op.equalIn 10000 27 (.agg #[.int .u64 m'.seq, .int .u32 m'.ep, .int .u32 m'.tail, .int .u64 m'.lsn, .int .u32 m'.last, .int .i64 m'.pg, .int .i64 m'.un, .int .i64 m'.lg, .int .u32 m'.mx]) (.agg #[.int .u64 q, .int .u32 (k : Int), .int .u32 0, .int .u64 9, .int .u32 0, .int .i64 2, .int .i64 3, .int .i64 64, .int .u32 100])).run Try.prog w = .ok false w := fun w => by
            have := equal27 m' (nxM q k) w
            rw [eqM_ne (show m'.seq ≠ q by have := HQ2.out; omega)] at this; exact this
          have hE' : (E == 0) = false := by simpa using hE
          go_upto_region 17 with (first
            | (go_at_call 19; refine (HLD.out _ _ hdd).mono ?_; clear HLD; rintro ex we ⟨rfl, Le, hde, hke⟩
               have r7 : Row (we.alloc (.cells #[.int .u64 0, .int .u32 0, .int .u32 0, .int .u64 0, .int .u32 0, .int .i64 0, .int .i64 0, .int .i64 0, .int .u32 0] 27)) we.heap.size #[.int .u64 0, .int .u32 0, .int .u32 0, .int .u64 0, .int .u32 0, .int .i64 0, .int .i64 0, .int .i64 0, .int .u32 0] 27 := Row.new _ _ _)
            | (refine store_cells rfl 27 (.tmp 17) (.tmp 69) rfl we.heap.size #[.int .u64 m'.seq, .int .u32 m'.ep, .int .u32 m'.tail, .int .u64 m'.lsn, .int .u32 m'.last, .int .i64 m'.pg, .int .i64 m'.un, .int .i64 m'.lg, .int .u32 m'.mx] rfl rfl 27 _ r7 9 size27 rfl rfl (by simp [Value.oneCell']) ?_))
          have u3 := hke _ _ _ z3.1 z3.2
          have u5 := hke _ _ _ z5.1 z5.2
          have r3 := u3.1
          have r5 := u5.1
          have n3 := u3.2
          clear z3 z5 u3 u5 hke hdd
          have l3 := r3.lt
          have l5 := r5.lt
          have n7 := hde.fresh
          have b7 := hde.be.size
          have r3 := (r3.alloc (.cells #[.int .u64 0, .int .u32 0, .int .u32 0, .int .u64 0, .int .u32 0, .int .i64 0, .int .i64 0, .int .i64 0, .int .u32 0] 27)).other (g := we.heap.size) (by omega) #[.int .u64 m'.seq, .int .u32 m'.ep, .int .u32 m'.tail, .int .u64 m'.lsn, .int .u32 m'.last, .int .i64 m'.pg, .int .i64 m'.un, .int .i64 m'.lg, .int .u32 m'.mx]
          have r5 := (r5.alloc (.cells #[.int .u64 0, .int .u32 0, .int .u32 0, .int .u64 0, .int .u32 0, .int .i64 0, .int .i64 0, .int .i64 0, .int .u32 0] 27)).other (g := we.heap.size) (by omega) #[.int .u64 m'.seq, .int .u32 m'.ep, .int .u32 m'.tail, .int .u64 m'.lsn, .int .u32 m'.last, .int .i64 m'.pg, .int .i64 m'.un, .int .i64 m'.lg, .int .u32 m'.mx]
          have r7 := r7.set #[.int .u64 m'.seq, .int .u32 m'.ep, .int .u32 m'.tail, .int .u64 m'.lsn, .int .u32 m'.last, .int .i64 m'.pg, .int .i64 m'.un, .int .i64 m'.lg, .int .u32 m'.mx]
          have hd7 := (hde.down ((Below.refl _ _).alloc (Nat.le_refl _) (.cells #[.int .u64 0, .int .u32 0, .int .u32 0, .int .u64 0, .int .u32 0, .int .i64 0, .int .i64 0, .int .i64 0, .int .u32 0] 27))).put we.heap.size #[.int .u64 m'.seq, .int .u32 m'.ep, .int .u32 m'.tail, .int .u64 m'.lsn, .int .u32 m'.last, .int .i64 m'.pg, .int .i64 m'.un, .int .i64 m'.lg, .int .u32 m'.mx] n7 b7
          clear hde
          show Code.wp _ _ _ _ ((we.alloc (.cells #[.int .u64 0, .int .u32 0, .int .u32 0, .int .u64 0, .int .u32 0, .int .i64 0, .int .i64 0, .int .i64 0, .int .u32 0] 27)).setRow we.heap.size #[.int .u64 m'.seq, .int .u32 m'.ep, .int .u32 m'.tail, .int .u64 m'.lsn, .int .u32 m'.last, .int .i64 m'.pg, .int .i64 m'.un, .int .i64 m'.lg, .int .u32 m'.mx])
          generalize (we.alloc (.cells #[.int .u64 0, .int .u32 0, .int .u32 0, .int .u64 0, .int .u32 0, .int .i64 0, .int .i64 0, .int .i64 0, .int .u32 0] 27)).setRow we.heap.size #[.int .u64 m'.seq, .int .u32 m'.ep, .int .u32 m'.tail, .int .u64 m'.lsn, .int .u32 m'.last, .int .i64 m'.pg, .int .i64 m'.un, .int .i64 m'.lg, .int .u32 m'.mx] = wf at r3 r5 r7 hd7 ⊢
          obtain ⟨g7, hg7⟩ : ∃ g, we.heap.size = g := ⟨_, rfl⟩
          rw [hg7] at r7 n7 b7 l3 l5 ⊢
          clear hg7
          have x3 := r3.set #[.int .u64 m'.seq, .int .u32 m'.ep, .int .u32 m'.tail, .int .u64 m'.lsn, .int .u32 m'.last, .int .i64 m'.pg, .int .i64 m'.un, .int .i64 m'.lg, .int .u32 m'.mx]
          have hd8 := hd7.put g3 #[.int .u64 m'.seq, .int .u32 m'.ep, .int .u32 m'.tail, .int .u64 m'.lsn, .int .u32 m'.last, .int .i64 m'.pg, .int .i64 m'.un, .int .i64 m'.lg, .int .u32 m'.mx] n3 hg3
          go_wp2_with (first
            | (refine load_cells_g rfl 27 (.tmp 17) rfl g7 rfl 27 #[.int .u64 m'.seq, .int .u32 m'.ep, .int .u32 m'.tail, .int .u64 m'.lsn, .int .u32 m'.last, .int .i64 m'.pg, .int .i64 m'.un, .int .i64 m'.lg, .int .u32 m'.mx] r7 9 Try.underlying27 rfl size27 rfl ?_)
            | (refine load_cells_g rfl 27 (.tmp 13) rfl g3 rfl 27 #[.int .u64 m'.seq, .int .u32 m'.ep, .int .u32 m'.tail, .int .u64 m'.lsn, .int .u32 m'.last, .int .i64 m'.pg, .int .i64 m'.un, .int .i64 m'.lg, .int .u32 m'.mx] r3 9 Try.underlying27 rfl size27 rfl ?_)
            | (refine load_cells_g rfl 27 (.tmp 15) rfl g5 rfl 27 #[.int .u64 q, .int .u32 (k : Int), .int .u32 0, .int .u64 9, .int .u32 0, .int .i64 2, .int .i64 3, .int .i64 64, .int .u32 100] r5 9 Try.underlying27 rfl size27 rfl ?_)
            | (refine store_cells rfl 27 (.tmp 13) (.tmp 103) rfl g3 #[.int .u64 m'.seq, .int .u32 m'.ep, .int .u32 m'.tail, .int .u64 m'.lsn, .int .u32 m'.last, .int .i64 m'.pg, .int .i64 m'.un, .int .i64 m'.lg, .int .u32 m'.mx] rfl rfl 27 _ r3 9 size27 rfl rfl (by simp [Value.oneCell']) ?_))
          go_roundw
          case rel => exact ⟨k + 1, D3, g, m', t', Le, by go_num, rfl, by omega, hR', hC', by rw [show 4 * (k + 1 + 1) = 4 * (k + 1) + 4 by omega]; exact hd8, x3, n3, by have h1 := HSQ2.out; have h2 := HQ2.out; show m'.seq ≤ _; push_cast; omega⟩
          case measure => simp [intOf]; omega
        · have heo : ∀ w, (Op.equalIn 10000 27 (.agg #[.int .u64 q, .int .u32 (k : Int), .int .u32 0, .int .u64 9, .int .u32 0, .int .i64 2, .int .i64 3, .int .i64 64, .int .u32 100]) (.agg #[.int .u64 old.seq, .int .u32 old.ep, .int .u32 old.tail, .int .u64 old.lsn, .int .u32 old.last, .int .i64 old.pg, .int .i64 old.un, .int .i64 old.lg, .int .u32 old.mx])).run Try.prog w = .ok false w := fun w => by
            have := equal27 (nxM q k) old w
            rw [eqM_ne (show q ≠ old.seq by have := HQ2.out; omega)] at this; exact this
          have hen : ∀ w, (Op.equalIn 10000 27 (.agg #[.int .u64 q, .int .u32 (k : Int), .int .u32 0, .int .u64 9, .int .u32 0, .int .i64 2, .int .i64 3, .int .i64 64, .int .u32 100]) (.agg #[.int .u64 q, .int .u32 (k : Int), .int .u32 0, .int .u64 9, .int .u32 0, .int .i64 2, .int .i64 3, .int .i64 64, .int .u32 100])).run Try.prog w = .ok true w := fun w => by
            have := equal27 (nxM q k) (nxM q k) w
            rw [eqM_self] at this; exact this
          by_cases hE : E = 0
          · subst hE
            go_upto_region 17 with (first
              | (go_at_call 19; refine (HLD.out _ _ hdd).mono ?_; clear HLD; rintro ex we ⟨rfl, Le, hde, hke⟩
                 have r7 : Row (we.alloc (.cells #[.int .u64 0, .int .u32 0, .int .u32 0, .int .u64 0, .int .u32 0, .int .i64 0, .int .i64 0, .int .i64 0, .int .u32 0] 27)) we.heap.size #[.int .u64 0, .int .u32 0, .int .u32 0, .int .u64 0, .int .u32 0, .int .i64 0, .int .i64 0, .int .i64 0, .int .u32 0] 27 := Row.new _ _ _)
              | (refine store_cells rfl 27 (.tmp 17) (.tmp 69) rfl we.heap.size #[.int .u64 q, .int .u32 (k : Int), .int .u32 0, .int .u64 9, .int .u32 0, .int .i64 2, .int .i64 3, .int .i64 64, .int .u32 100] rfl rfl 27 _ r7 9 size27 rfl rfl (by simp [Value.oneCell']) ?_))
            have u3 := hke _ _ _ z3.1 z3.2
            have u5 := hke _ _ _ z5.1 z5.2
            have r3 := u3.1
            have r5 := u5.1
            have n3 := u3.2
            clear z3 z5 u3 u5 hke hdd
            have l3 := r3.lt
            have l5 := r5.lt
            have n7 := hde.fresh
            have b7 := hde.be.size
            have r3 := (r3.alloc (.cells #[.int .u64 0, .int .u32 0, .int .u32 0, .int .u64 0, .int .u32 0, .int .i64 0, .int .i64 0, .int .i64 0, .int .u32 0] 27)).other (g := we.heap.size) (by omega) #[.int .u64 q, .int .u32 (k : Int), .int .u32 0, .int .u64 9, .int .u32 0, .int .i64 2, .int .i64 3, .int .i64 64, .int .u32 100]
            have r5 := (r5.alloc (.cells #[.int .u64 0, .int .u32 0, .int .u32 0, .int .u64 0, .int .u32 0, .int .i64 0, .int .i64 0, .int .i64 0, .int .u32 0] 27)).other (g := we.heap.size) (by omega) #[.int .u64 q, .int .u32 (k : Int), .int .u32 0, .int .u64 9, .int .u32 0, .int .i64 2, .int .i64 3, .int .i64 64, .int .u32 100]
            have r7 := r7.set #[.int .u64 q, .int .u32 (k : Int), .int .u32 0, .int .u64 9, .int .u32 0, .int .i64 2, .int .i64 3, .int .i64 64, .int .u32 100]
            have hd7 := (hde.down ((Below.refl _ _).alloc (Nat.le_refl _) (.cells #[.int .u64 0, .int .u32 0, .int .u32 0, .int .u64 0, .int .u32 0, .int .i64 0, .int .i64 0, .int .i64 0, .int .u32 0] 27))).put we.heap.size #[.int .u64 q, .int .u32 (k : Int), .int .u32 0, .int .u64 9, .int .u32 0, .int .i64 2, .int .i64 3, .int .i64 64, .int .u32 100] n7 b7
            clear hde
            show Code.wp _ _ _ _ ((we.alloc (.cells #[.int .u64 0, .int .u32 0, .int .u32 0, .int .u64 0, .int .u32 0, .int .i64 0, .int .i64 0, .int .i64 0, .int .u32 0] 27)).setRow we.heap.size #[.int .u64 q, .int .u32 (k : Int), .int .u32 0, .int .u64 9, .int .u32 0, .int .i64 2, .int .i64 3, .int .i64 64, .int .u32 100])
            generalize (we.alloc (.cells #[.int .u64 0, .int .u32 0, .int .u32 0, .int .u64 0, .int .u32 0, .int .i64 0, .int .i64 0, .int .i64 0, .int .u32 0] 27)).setRow we.heap.size #[.int .u64 q, .int .u32 (k : Int), .int .u32 0, .int .u64 9, .int .u32 0, .int .i64 2, .int .i64 3, .int .i64 64, .int .u32 100] = wf at r3 r5 r7 hd7 ⊢
            obtain ⟨g7, hg7⟩ : ∃ g, we.heap.size = g := ⟨_, rfl⟩
            rw [hg7] at r7 n7 b7 l3 l5 ⊢
            clear hg7
            have x3 := r3.set #[.int .u64 q, .int .u32 (k : Int), .int .u32 0, .int .u64 9, .int .u32 0, .int .i64 2, .int .i64 3, .int .i64 64, .int .u32 100]
            have hd8 := hd7.put g3 #[.int .u64 q, .int .u32 (k : Int), .int .u32 0, .int .u64 9, .int .u32 0, .int .i64 2, .int .i64 3, .int .i64 64, .int .u32 100] n3 hg3
            go_wp2_with (first
              | (refine load_cells_g rfl 27 (.tmp 17) rfl g7 rfl 27 #[.int .u64 q, .int .u32 (k : Int), .int .u32 0, .int .u64 9, .int .u32 0, .int .i64 2, .int .i64 3, .int .i64 64, .int .u32 100] r7 9 Try.underlying27 rfl size27 rfl ?_)
              | (refine load_cells_g rfl 27 (.tmp 13) rfl g3 rfl 27 #[.int .u64 old.seq, .int .u32 old.ep, .int .u32 old.tail, .int .u64 old.lsn, .int .u32 old.last, .int .i64 old.pg, .int .i64 old.un, .int .i64 old.lg, .int .u32 old.mx] r3 9 Try.underlying27 rfl size27 rfl ?_)
              | (refine load_cells_g rfl 27 (.tmp 15) rfl g5 rfl 27 #[.int .u64 q, .int .u32 (k : Int), .int .u32 0, .int .u64 9, .int .u32 0, .int .i64 2, .int .i64 3, .int .i64 64, .int .u32 100] r5 9 Try.underlying27 rfl size27 rfl ?_)
              | (refine store_cells rfl 27 (.tmp 13) (.tmp 103) rfl g3 #[.int .u64 q, .int .u32 (k : Int), .int .u32 0, .int .u64 9, .int .u32 0, .int .i64 2, .int .i64 3, .int .i64 64, .int .u32 100] rfl rfl 27 _ r3 9 size27 rfl rfl (by simp [Value.oneCell']) ?_))
            go_roundw
            case rel => exact ⟨k + 1, D3, g, nxM q k, 1 - t, Le, by go_num, rfl, by omega, hR', hC', by rw [show 4 * (k + 1 + 1) = 4 * (k + 1) + 4 by omega]; exact hd8, x3, n3, by have h1 := HSQ2.out; have h2 := HQ2.out; show q ≤ _; push_cast; omega⟩
            case measure => simp [intOf]; omega
          · have hE' : (E == 0) = false := by simpa using hE
            go_upto_region 17 with (first
              | (go_at_call 19; refine (HLD.out _ _ hdd).mono ?_; clear HLD; rintro ex we ⟨rfl, Le, hde, hke⟩
                 have r7 : Row (we.alloc (.cells #[.int .u64 0, .int .u32 0, .int .u32 0, .int .u64 0, .int .u32 0, .int .i64 0, .int .i64 0, .int .i64 0, .int .u32 0] 27)) we.heap.size #[.int .u64 0, .int .u32 0, .int .u32 0, .int .u64 0, .int .u32 0, .int .i64 0, .int .i64 0, .int .i64 0, .int .u32 0] 27 := Row.new _ _ _)
              | (refine store_cells rfl 27 (.tmp 17) (.tmp 69) rfl we.heap.size #[.int .u64 q, .int .u32 (k : Int), .int .u32 0, .int .u64 9, .int .u32 0, .int .i64 2, .int .i64 3, .int .i64 64, .int .u32 100] rfl rfl 27 _ r7 9 size27 rfl rfl (by simp [Value.oneCell']) ?_))
            have u3 := hke _ _ _ z3.1 z3.2
            have u5 := hke _ _ _ z5.1 z5.2
            have r3 := u3.1
            have r5 := u5.1
            have n3 := u3.2
            clear z3 z5 u3 u5 hke hdd
            have l3 := r3.lt
            have l5 := r5.lt
            have n7 := hde.fresh
            have b7 := hde.be.size
            have r3 := (r3.alloc (.cells #[.int .u64 0, .int .u32 0, .int .u32 0, .int .u64 0, .int .u32 0, .int .i64 0, .int .i64 0, .int .i64 0, .int .u32 0] 27)).other (g := we.heap.size) (by omega) #[.int .u64 q, .int .u32 (k : Int), .int .u32 0, .int .u64 9, .int .u32 0, .int .i64 2, .int .i64 3, .int .i64 64, .int .u32 100]
            have r5 := (r5.alloc (.cells #[.int .u64 0, .int .u32 0, .int .u32 0, .int .u64 0, .int .u32 0, .int .i64 0, .int .i64 0, .int .i64 0, .int .u32 0] 27)).other (g := we.heap.size) (by omega) #[.int .u64 q, .int .u32 (k : Int), .int .u32 0, .int .u64 9, .int .u32 0, .int .i64 2, .int .i64 3, .int .i64 64, .int .u32 100]
            have r7 := r7.set #[.int .u64 q, .int .u32 (k : Int), .int .u32 0, .int .u64 9, .int .u32 0, .int .i64 2, .int .i64 3, .int .i64 64, .int .u32 100]
            have hd7 := (hde.down ((Below.refl _ _).alloc (Nat.le_refl _) (.cells #[.int .u64 0, .int .u32 0, .int .u32 0, .int .u64 0, .int .u32 0, .int .i64 0, .int .i64 0, .int .i64 0, .int .u32 0] 27))).put we.heap.size #[.int .u64 q, .int .u32 (k : Int), .int .u32 0, .int .u64 9, .int .u32 0, .int .i64 2, .int .i64 3, .int .i64 64, .int .u32 100] n7 b7
            clear hde
            show Code.wp _ _ _ _ ((we.alloc (.cells #[.int .u64 0, .int .u32 0, .int .u32 0, .int .u64 0, .int .u32 0, .int .i64 0, .int .i64 0, .int .i64 0, .int .u32 0] 27)).setRow we.heap.size #[.int .u64 q, .int .u32 (k : Int), .int .u32 0, .int .u64 9, .int .u32 0, .int .i64 2, .int .i64 3, .int .i64 64, .int .u32 100])
            generalize (we.alloc (.cells #[.int .u64 0, .int .u32 0, .int .u32 0, .int .u64 0, .int .u32 0, .int .i64 0, .int .i64 0, .int .i64 0, .int .u32 0] 27)).setRow we.heap.size #[.int .u64 q, .int .u32 (k : Int), .int .u32 0, .int .u64 9, .int .u32 0, .int .i64 2, .int .i64 3, .int .i64 64, .int .u32 100] = wf at r3 r5 r7 hd7 ⊢
            obtain ⟨g7, hg7⟩ : ∃ g, we.heap.size = g := ⟨_, rfl⟩
            rw [hg7] at r7 n7 b7 l3 l5 ⊢
            clear hg7
            have x3 := r3.set #[.int .u64 q, .int .u32 (k : Int), .int .u32 0, .int .u64 9, .int .u32 0, .int .i64 2, .int .i64 3, .int .i64 64, .int .u32 100]
            have hd8 := hd7.put g3 #[.int .u64 q, .int .u32 (k : Int), .int .u32 0, .int .u64 9, .int .u32 0, .int .i64 2, .int .i64 3, .int .i64 64, .int .u32 100] n3 hg3
            go_wp2_with (first
              | (refine load_cells_g rfl 27 (.tmp 17) rfl g7 rfl 27 #[.int .u64 q, .int .u32 (k : Int), .int .u32 0, .int .u64 9, .int .u32 0, .int .i64 2, .int .i64 3, .int .i64 64, .int .u32 100] r7 9 Try.underlying27 rfl size27 rfl ?_)
              | (refine load_cells_g rfl 27 (.tmp 13) rfl g3 rfl 27 #[.int .u64 old.seq, .int .u32 old.ep, .int .u32 old.tail, .int .u64 old.lsn, .int .u32 old.last, .int .i64 old.pg, .int .i64 old.un, .int .i64 old.lg, .int .u32 old.mx] r3 9 Try.underlying27 rfl size27 rfl ?_)
              | (refine load_cells_g rfl 27 (.tmp 15) rfl g5 rfl 27 #[.int .u64 q, .int .u32 (k : Int), .int .u32 0, .int .u64 9, .int .u32 0, .int .i64 2, .int .i64 3, .int .i64 64, .int .u32 100] r5 9 Try.underlying27 rfl size27 rfl ?_)
              | (refine store_cells rfl 27 (.tmp 13) (.tmp 103) rfl g3 #[.int .u64 q, .int .u32 (k : Int), .int .u32 0, .int .u64 9, .int .u32 0, .int .i64 2, .int .i64 3, .int .i64 64, .int .u32 100] rfl rfl 27 _ r3 9 size27 rfl rfl (by simp [Value.oneCell']) ?_))
            go_roundw
            case rel => exact ⟨k + 1, D3, g, nxM q k, 1 - t, Le, by go_num, rfl, by omega, hR', hC', by rw [show 4 * (k + 1 + 1) = 4 * (k + 1) + 4 by omega]; exact hd8, x3, n3, by have h1 := HSQ2.out; have h2 := HQ2.out; show q ≤ _; push_cast; omega⟩
            case measure => simp [intOf]; omega
      · have wb := hd.be
        go_wp2_with (go_at_call 15; refine (HA.out _).mono ?_; clear HA; rintro ex wz ⟨rfl, hz⟩; have wb := wb.trans (hz.mono wb.size))
        go_ret
        exact ⟨rfl, wb⟩
theorem walk (w : World) (mo : Int) (sb : Bool) (fu : Int) (v : Value) (bl : List Bool) (ti : Int) (hmo : (Lit.int .u8 mo).wf = true) (hfu : (Lit.int .u8 fu).wf = true) (hv : Cel w v (bl.map .bool) ∧ bl.length ≤ 140737488355328) (hti : (Lit.int .u8 ti).wf = true) :
    Calls Try.prog 6 #[.int .u8 mo, .bool sb, .int .u8 fu, v, .int .u8 ti] w fun e w' => e = .returned (.bool true) ∧ Below w.heap.size w w' :=
  walk_at w mo sb fu v bl ti _ rfl (bounds_u8 hmo) (bounds_u8 hfu) hv.1 hv.2 (bounds_u8 hti)

set_option maxRecDepth 100000 in
theorem lifted (os : Os) (started : os.Started) (H : Type) (enc : TypeId × Value → H) :
    ReturnsInHanded {} Try.checked os 6 .any (Rows.masterCrashSpec.pre6 enc Try.prog Try.f6 Rows.masterCrashRow.domain false) (Rows.masterCrashSpec.post enc Try.prog Try.f6 false true false false) := by
  refine returnsInHanded_of_change_sized (C := Try.checked) own started (by kernel_rfl) Try.func6
    (ChangeSpec.witness6 (enc := enc) (C := Try.checked) false ⟨#[], #[.int .u8 0, .bool false, .int .u8 0, .slice none 0 0, .int .u8 0], []⟩ 8 (by kernel_rfl) (by kernel_rfl) (by kernel_rfl) (by kernel_rfl)) ?_
  intro W base args ds gs before hval0 hW hcnd hsz0 _
  have hval : ∀ (j : Nat) t v, Try.f6.params[j]? = some t → args[j]? = some v → Value.okWide Try.prog W .any base t v := hval0
  have hW' := hW
  obtain ⟨p, q, hA0, hV, rfl, hfz, hnd⟩ := hW
  have hA : DataW.TrodAll enc Try.prog W 0 (fun _ => true) true Try.f6.params.toList args.toList ds p := hA0
  have hsz : (DataW.weightsEach Try.prog (Try.f6.params.toList ++ []) (ds ++ gs)).all (· ≤ reachBytes) = true := hsz0
  rw [Try.params6] at hA hval hsz
  obtain ⟨v0, vs0, d0, ds0, p0, q0, hargs, rfl, rfl, h0, r0⟩ := trodAll_cons hA
  obtain ⟨v1, vs1, d1, ds1, p1, q1, rfl, rfl, rfl, h1, r1⟩ := trodAll_cons r0
  obtain ⟨v2, vs2, d2, ds2, p2, q2, rfl, rfl, rfl, h2, r2⟩ := trodAll_cons r1
  obtain ⟨v3, vs3, d3, ds3, p3, q3, rfl, rfl, rfl, h3, r3⟩ := trodAll_cons r2
  obtain ⟨v4, vs4, d4, ds4, p4, q4, rfl, rfl, rfl, h4, r4⟩ := trodAll_cons r3
  obtain ⟨rfl, rfl, rfl⟩ := trodAll_nil r4
  obtain rfl : args = #[v0, v1, v2, v3, v4] := by cases args; simp_all
  obtain ⟨rfl, rfl⟩ := trodVars_none hV
  simp only [List.append_nil] at hsz
  have hlt : ∀ x ∈ (p0 ++ (p1 ++ (p2 ++ (p3 ++ (p4 ++ []))))), x.block < W.heap.size := fun x hx => hW'.lt x (by simpa using hx)
  have hw0 : (d0.weights Try.prog 5).all (· ≤ reachBytes) = true := List.all_eq_true.2 fun m hm => List.all_eq_true.1 hsz m (by simp [DataW.weightsEach, hm])
  have hw1 : (d1.weights Try.prog 4).all (· ≤ reachBytes) = true := List.all_eq_true.2 fun m hm => List.all_eq_true.1 hsz m (by simp [DataW.weightsEach, hm])
  have hw2 : (d2.weights Try.prog 5).all (· ≤ reachBytes) = true := List.all_eq_true.2 fun m hm => List.all_eq_true.1 hsz m (by simp [DataW.weightsEach, hm])
  have hw3 : (d3.weights Try.prog 50).all (· ≤ reachBytes) = true := List.all_eq_true.2 fun m hm => List.all_eq_true.1 hsz m (by simp [DataW.weightsEach, hm])
  have hw4 : (d4.weights Try.prog 5).all (· ≤ reachBytes) = true := List.all_eq_true.2 fun m hm => List.all_eq_true.1 hsz m (by simp [DataW.weightsEach, hm])
  have k0 := h0
  have k1 := h1
  have k2 := h2
  have k3 := h3
  have k4 := h4
  obtain ⟨a0, rfl, rfl, rfl, w0⟩ := open_int Try.underlying5 (hval 0 5 v0 rfl rfl) h0
  obtain ⟨a1, rfl, rfl, rfl⟩ := open_bool Try.underlying4 (hval 1 4 v1 rfl rfl) h1
  obtain ⟨a2, rfl, rfl, rfl, w2⟩ := open_int Try.underlying5 (hval 2 5 v2 rfl rfl) h2
  obtain ⟨a3, w3⟩ := open_boolsv (hval 3 50 v3 rfl rfl) h3 hw3
  obtain ⟨a4, rfl, rfl, rfl, w4⟩ := open_int Try.underlying5 (hval 4 5 v4 rfl rfl) h4
  clear hA0 hval0
  simp only [List.append_nil] at hW'
  refine (walk W a0 a1 a2 v3 a3 a4 w0 w2 w3 w4).mono fun e W' ⟨he, hg⟩ => ?_
  subst he
  exact ⟨_, rfl, ⟨_, _, _, [], ([] ++ ([] ++ ([] ++ (p3 ++ ([] ++ []))))), [], hW', (trodAll_cons_mk (shut_bool Try.underlying4 _) trodAll_mk0), (trodAll_cons_mk (Below.trod laidOut (by kernel_rfl) (of_decide_eq_true (by kernel_rfl)) k0 hg (fun x hx => (nomatch hx))) (trodAll_cons_mk (Below.trod laidOut (by kernel_rfl) (of_decide_eq_true (by kernel_rfl)) k1 hg (fun x hx => (nomatch hx))) (trodAll_cons_mk (Below.trod laidOut (by kernel_rfl) (of_decide_eq_true (by kernel_rfl)) k2 hg (fun x hx => (nomatch hx))) (trodAll_cons_mk (Below.trod laidOut (by kernel_rfl) (of_decide_eq_true (by kernel_rfl)) k3 hg (fun x hx => hlt x (by simp [hx]))) (trodAll_cons_mk (Below.trod laidOut (by kernel_rfl) (of_decide_eq_true (by kernel_rfl)) k4 hg (fun x hx => (nomatch hx))) trodAll_mk0))))), rfl,
    hg.frame _, fun h => by cases h⟩⟩

theorem over : Rows.masterCrashRow.holds Try.pinned (OpenSpec.ofChange Rows.masterCrashSpec) :=
  OpenClaim.holds_of_wide 6 Try.f6 rfl rfl rfl rfl rfl rfl rfl ⟨rfl, rfl, rfl, rfl, rfl⟩ rfl rfl rfl rfl rfl (by kernel_rfl) Try.func6 (by kernel_rfl)
    (of_decide_eq_true (by kernel_rfl)) (by unfold Func.isWrapper; first | (rw [if_pos (by decide +kernel)]; kernel_rfl) | (rw [if_neg (by decide +kernel)]; exact ⟨rfl, rfl⟩))
    (fun os started H enc _ => lifted os started H enc)

/-- The statement. -/
theorem proved : Rows.MasterCrashSaid :=
  over
#print axioms proved
end Go.Proofs.Ytcbjjofckhohjaa.masterCrash
