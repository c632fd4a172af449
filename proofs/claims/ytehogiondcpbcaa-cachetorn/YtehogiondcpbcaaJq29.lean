/-
  Proved here: the document's GetUndo (varveref06).
-/
import Derived.Test.YtehogiondcpbcaaJq26
import Derived.Test.YtehogiondcpbcaaJq28
namespace Go.Proofs.Ytehogiondcpbcaa
open Go.ChangeShapes Go.WideShapes Go.ChangeAt Go.RowKit
set_option linter.unusedVariables false
set_option linter.unusedSimpArgs false
set_option maxRecDepth 20000
def RGotU (w : World) (no : Int) (p : List Int) (e : Ending) (w' : World) : Prop :=
  ∃ v', e = .returned (.tuple #[.agg #[.int .u64 (if isU no p then lsnOf p else 0), v'], .bool (isU no p)]) ∧ Olds w' v' (if isU no p then uOf p else []) ∧ Below w.heap.size w w'
structure LoopR (w wr : World) (gu : Nat) (p : List Int) (lsn : Int) (v : Value) (l : List O) : Prop where
  pay : Row wr w.heap.size (bs p) 34
  res : Row wr (w.heap.size + 1) #[.int .u64 0, .slice none 0 0] 103
  u : Row wr gu #[.int .u64 lsn, v] 103
  own : Own wr (gu + 1) v l
  below : Below w.heap.size w wr
theorem Own.offAny {F : Nat → Prop} {w w' : World} {base : Nat} {v : Value} {os : List O} (h : Own w base v os) (ho : Off F w w') (hF : ∀ b, v.ownBlock = some b → ¬ F b) : Own w' base v os := by
  have hl := World.ownsRow.lt h
  obtain ⟨h1, h2⟩ := h
  refine ⟨h1, ?_⟩
  rcases h2 with h2 | ⟨q, cap, cur, rfl, hb', hc, rest⟩
  · exact Or.inl h2
  · have := hl q (by simp [Value.ownBlock])
    exact Or.inr ⟨q, cap, cur, rfl, hb', (ho.block q this.2 (hF q (by simp [Value.ownBlock]))).trans hc, rest⟩
theorem built81four (a b c d : Int) : (Try.prog.built 130 [(0, .bool true), (1, .int .u16 a), (2, .int .u32 b), (3, .agg #[.int .u16 c, .int .u8 d])]) = some #[.bool true, .int .u16 a, .int .u32 b, .int .u16 c, .int .u8 d, .string ByteArray.empty] := by kernel_rfl
theorem slice_mid (g a n : Nat) (p : List Int) (hp : p.length = 224) (h : a + n ≤ 224) (lo hi : Int) (hl : lo = a) (hh : hi = a + n) :
    ∃ x c, (∀ w, (Instr.sliceAt 34 (.pointer (some ⟨g, 0, none⟩)) (some (.int .i64 lo)) (some (.int .i64 hi)) none).run Try.prog w = .ok (.slice (some x) n c) w) ∧
      ∀ w' t, Row w' g (bs p) t → (Go.convert 81 9 (.slice (some x) n c)).run Try.prog w' = .ok (.string (strOfNums ((p.drop a).take n))) w' := by
  have hal : Try.prog.arrayLen 34 = 224 := by kernel_rfl
  have hel : Try.prog.elem 34 = 5 := by kernel_rfl
  have hu : Try.prog.underlying 34 = some (.array (Try.prog.arrayLen 34) (Try.prog.elem 34)) := by rw [hal, hel]; exact Try.underlying34
  have hsz : ∀ w, (sizeOf 5).run Try.prog w = .ok 1 w := fun w => by go_simp
  have e : ∀ w, (Instr.sliceAt 34 (.pointer (some ⟨g, 0, none⟩)) (some (.int .i64 lo)) (some (.int .i64 hi)) none).run Try.prog w = .ok (slicedAt ⟨g, 0, none⟩ a (a + n) 224 1) w := fun w => by
    rw [run_sliceAt_array_lh w 34 _ hu .i64 .i64 lo hi (by omega) (by omega) (by rw [hal]; omega), hel, hsz, hal]
    show Result.ok _ _ = _
    rw [hl, hh, Int.toNat_natCast, show ((a : Int) + n).toNat = a + n by omega]
  by_cases ha : a = 224
  · obtain rfl : n = 0 := by omega
    refine ⟨⟨g, 0, none⟩, 0, fun w => ?_, fun w' t hr => ?_⟩
    · rw [e w, ha]; rfl
    · rw [List.take_zero]
      exact str_part hr 0 0 0 [] (by simp) (by omega)
  · refine ⟨⟨g, a, none⟩, 224 - a, fun w => ?_, fun w' t hr => ?_⟩
    · rw [e w]
      unfold slicedAt
      rw [if_neg (by omega), show a + n - a = n by omega]
      have : (⟨g, 0, none⟩ : Addr).add (a * 1) = ⟨g, a, none⟩ := by rw [Nat.mul_one]; unfold Addr.add; split <;> simp_all
      rw [this]
    · exact str_part hr a n (224 - a) _ rfl (by omega)
set_option maxRecDepth 20000 in
set_option maxHeartbeats 8000000 in
theorem rgetUndo_any (no : Int) (p : List Int) (w : World) (hno : 0 ≤ no ∧ no ≤ 65535) (hp : p.length = 224) (hb : Bytes p) :
    Calls Try.prog 65 #[.int .u16 no, .agg (bs p)] w fun e w' => RGotU w no p e w' := by
  have hz1 := zero103
  have hz2 := zero130
  have hz3 := zero34
  have r0 : Row ((w.alloc (.cells (bs p) 34)).alloc (.cells #[.int .u64 0, .slice none 0 0] 103)) w.heap.size (bs p) 34 := (Row.new _ _ _).alloc _
  have r1 : Row ((w.alloc (.cells (bs p) 34)).alloc (.cells #[.int .u64 0, .slice none 0 0] 103)) (w.heap.size + 1) #[.int .u64 0, .slice none 0 0] 103 := by have := Row.new (w.alloc (.cells (bs p) 34)) #[.int .u64 0, .slice none 0 0] 103; simpa using this
  have ab : Below w.heap.size w ((w.alloc (.cells (bs p) 34)).alloc (.cells #[.int .u64 0, .slice none 0 0] 103)) := ((Below.refl _ _).alloc (Nat.le_refl _) _).alloc (by simp) _
  have HLSN : Hid _ := fun w => rlsn_any p w hp
  have fl := getN_fits (strOfNums p) 7 8
  have hc15 : getN (strOfNums p) 15 1 = p.getD 15 0 := getN_one p hb 15 (by omega)
  have fc := hb.at 15
  have hcnt : p.getD 15 0 = ((cntU p : Nat) : Int) := by unfold cntU; rw [hc15]; omega
  have hc255 : cntU p ≤ 255 := by omega
  have HC15 : Hid ((bs p)[15]? = some (.int .u8 (cntU p : Nat))) := by
    show _ = _
    rw [bs_at, ← hcnt]; simp [List.getD, show 15 < p.length by omega]
  obtain ⟨lsn, HL⟩ : ∃ v, Hid (lsnOf p = v) := ⟨_, rfl⟩
  have HL' : Hid (getN (strOfNums p) 7 8 = lsn) := HL.out
  rw [HL'.out] at HLSN fl
  have FL : Hid (0 ≤ lsn ∧ lsn ≤ 18446744073709551615) := ⟨fl.1, by have := fl.2; omega⟩
  clear fl
  obtain ⟨n, HN⟩ : ∃ v, Hid (cntU p = v) := ⟨_, rfl⟩
  rw [HN.out] at HC15 hc255
  have hpb : (bs p).size = 224 := by rw [bs_size, hp]
  have HPL : Hid (p.length = 224) := hp
  have HPY : Hid (Bytes p) := hb
  have HAT : Hid (∀ j, j < 224 → ∀ w' g t, Row w' g (bs p) t → w'.cell? ⟨g, j, none⟩ = some (.int .u8 (p.getD j 0))) := fun j hj w' g t h => row_cell h j (by omega)
  have HIS := show Hid _ from rIs_eq no p
  clear hcnt fc hc15 hp hb
  go_enter Try.func65, Try.ntmps65
  go_upto_region 1 with fail
  generalize (w.alloc (.cells (bs p) 34)).alloc (.cells #[.int .u64 0, .slice none 0 0] 103) = w1 at r0 r1 ab ⊢
  go_upto_region 2 with (first
    | (refine load_row rfl 34 (.tmp 3) rfl w.heap.size rfl 34 (bs p) r0 224 5 Try.underlying34 size34 hpb ?_)
    | (go_at_call 92; refine (HLSN.out _).mono ?_; clear HLSN; rintro e w3 ⟨rfl, h3⟩
       have b3 : Row (w3.alloc (.cells #[.int .u64 0, .slice none 0 0] 103)) w3.heap.size #[.int .u64 0, .slice none 0 0] 103 := Row.new _ _ _)
    | (refine build_one rfl 103 (.tmp 14) rfl _ rfl _ (built44one lsn) ?_)
    | (refine store_cells rfl 103 (.tmp 6) (.tmp 15) rfl w3.heap.size #[.int .u64 lsn, .slice none 0 0] rfl rfl 103 _ b3 2 size103 rfl rfl (by simp [Value.oneCell']) ?_))
  have r0 := r0.below h3 r0.lt
  have r1 := r1.below h3 r1.lt
  have l1 := r1.lt
  have ab := ab.trans (h3.mono ab.size)
  have r0 := (r0.alloc (.cells #[.int .u64 0, .slice none 0 0] 103)).other (g := w3.heap.size) (by omega) #[.int .u64 lsn, .slice none 0 0]
  have r1 := (r1.alloc (.cells #[.int .u64 0, .slice none 0 0] 103)).other (g := w3.heap.size) (by omega) #[.int .u64 lsn, .slice none 0 0]
  have r2 := b3.set #[.int .u64 lsn, .slice none 0 0]
  have ab := below_setRow (ab.alloc ab.size (.cells #[.int .u64 0, .slice none 0 0] 103)) ab.size #[.int .u64 lsn, .slice none 0 0]
  clear h3 b3
  generalize (w3.alloc (.cells #[.int .u64 0, .slice none 0 0] 103)).setRow w3.heap.size #[.int .u64 lsn, .slice none 0 0] = w4 at r0 r1 r2 ab ⊢
  generalize w3.heap.size = gu at r2 l1 ⊢
  have L0 : LoopR w w4 gu p lsn (.slice none 0 0) [] := ⟨r0, r1, r2, ⟨rfl, Or.inl ⟨rfl, rfl⟩⟩, ab⟩
  clear r0 r1 r2 ab
  go_wp2
  go_loopw [7, 8] (fun a7 i wr => ∃ (k a : Nat) (v : Value) (l : List O), k ≤ n ∧ i = .int .i64 k ∧ a7 = .int .i64 a ∧ a ≤ 1000 ∧ Hid (rO p k = some (l, a)) ∧ LoopR w wr gu p lsn v l) (fun _ i _ => n - (intOf i).toNat)
  case atStart => exact ⟨0, 16, _, _, by omega, rfl, rfl, by omega, rfl, L0⟩
  case round =>
    clear L0
    obtain ⟨k, a, v, l, hk, rfl, rfl, ha, HR, L⟩ := hrel
    obtain ⟨l0, l1', l2, lo, lb⟩ := L
    have c15 := row_at l0 15 _ HC15.out
    have hn63 : (n : Int) ≤ 255 := by omega
    go_upto_region 4 with fail
    go_cut [24] from 16 to 88 (fun c wx => c = .bool (decide (k < n ∧ a < 224)) ∧ wx = wr)
    case first =>
      by_cases h1 : k < n
      · have h1' : (k : Int) < (n : Int) := by omega
        by_cases h2 : a < 224
        · have h2' : (a : Int) < 224 := by omega
          have hd : Hid (decide (k < n ∧ a < 224) = true) := by show _ = _; simp [h1, h2]
          clear h1 h2 HIS HAT HL HL' hpb hz1 hz2 hz3
          go_wp2
          go_meet
          exact ⟨by rw [hd.out], rfl⟩
        · have h2' : ¬ (a : Int) < 224 := by omega
          have hd : Hid (decide (k < n ∧ a < 224) = false) := by show _ = _; simp [h2]
          clear h1 h2 HIS HAT HL HL' hpb hz1 hz2 hz3
          go_wp2
          go_meet
          exact ⟨by rw [hd.out], rfl⟩
      · have h1' : ¬ (k : Int) < (n : Int) := by omega
        have hd : Hid (decide (k < n ∧ a < 224) = false) := by show _ = _; simp [h1]
        clear h1 HIS HAT HL HL' hpb hz1 hz2 hz3
        go_wp2
        go_meet
        exact ⟨by rw [hd.out], rfl⟩
    case rest =>
      clear c15
      obtain ⟨rfl, rfl⟩ := hcut
      by_cases hc : k < n ∧ a < 224
      · rw [decide_eq_true hc]
        obtain ⟨hkn, ha2⟩ := hc
        have q1 : Row (wc.alloc (.cells #[.bool false, .int .u16 0, .int .u32 0, .int .u16 0, .int .u8 0, .string ByteArray.empty] 130)) wc.heap.size #[.bool false, .int .u16 0, .int .u32 0, .int .u16 0, .int .u8 0, .string ByteArray.empty] 130 := Row.new _ _ _
        go_upto_region 7 with (first
          | (refine build_none rfl 130 rfl _ built130 ?_)
          | (refine store_cells rfl 130 (.tmp 9) (.tmp 27) rfl wc.heap.size #[.bool false, .int .u16 0, .int .u32 0, .int .u16 0, .int .u8 0, .string ByteArray.empty] rfl rfl 130 _ q1 6 size130 rfl rfl (by simp [Value.oneCell']) ?_))
        have q2 := q1.set #[.bool false, .int .u16 0, .int .u32 0, .int .u16 0, .int .u8 0, .string ByteArray.empty]
        have hlt := l2.lt
        have d0 := (l0.alloc (.cells #[.bool false, .int .u16 0, .int .u32 0, .int .u16 0, .int .u8 0, .string ByteArray.empty] 130)).other (g := wc.heap.size) (by omega) #[.bool false, .int .u16 0, .int .u32 0, .int .u16 0, .int .u8 0, .string ByteArray.empty]
        have d1 := (l1'.alloc (.cells #[.bool false, .int .u16 0, .int .u32 0, .int .u16 0, .int .u8 0, .string ByteArray.empty] 130)).other (g := wc.heap.size) (by omega) #[.bool false, .int .u16 0, .int .u32 0, .int .u16 0, .int .u8 0, .string ByteArray.empty]
        have d2 := (l2.alloc (.cells #[.bool false, .int .u16 0, .int .u32 0, .int .u16 0, .int .u8 0, .string ByteArray.empty] 130)).other (g := wc.heap.size) (by omega) #[.bool false, .int .u16 0, .int .u32 0, .int .u16 0, .int .u8 0, .string ByteArray.empty]
        have ob : Below wc.heap.size wc ((wc.alloc (.cells #[.bool false, .int .u16 0, .int .u32 0, .int .u16 0, .int .u8 0, .string ByteArray.empty] 130)).setRow wc.heap.size #[.bool false, .int .u16 0, .int .u32 0, .int .u16 0, .int .u8 0, .string ByteArray.empty]) := below_setRow ((Below.refl _ _).alloc (Nat.le_refl _) _) (Nat.le_refl _) _
        have hob : ∀ b, v.ownBlock = some b → b < wc.heap.size := fun b hb => (World.ownsRow.lt lo b hb).2
        have lo := lo.keep ob
        have lb := lb.trans (ob.mono lb.size)
        clear l0 l1' l2 q1 ob
        generalize (wc.alloc (.cells #[.bool false, .int .u16 0, .int .u32 0, .int .u16 0, .int .u8 0, .string ByteArray.empty] 130)).setRow wc.heap.size #[.bool false, .int .u16 0, .int .u32 0, .int .u16 0, .int .u8 0, .string ByteArray.empty] = w5 at q2 d0 d1 d2 lo lb ⊢
        generalize wc.heap.size = go at q2 hlt hob ⊢
        have hx := HAT.out a ha2 w5 _ _ d0
        have hxb := HPY.out.at a
        simp only [Act.put]
        go_cut [35] from 16 to 88 (fun c wx => c = .bool (liveAt p a) ∧ wx = w5)
        case first =>
          have ha3 : (a : Int) < 224 := by omega
          by_cases h1 : p.getD a 0 = 1
          · rw [h1] at hx
            by_cases h2 : a ≤ 213
            · have h2' : (a : Int) ≤ 213 := by omega
              have hd : Hid (liveAt p a = true) := by show _ = _; unfold liveAt; rw [h1]; simp [h2]
              clear h1 h2 HIS HAT HL HL' hxb hpb
              go_wp2
              go_meet
              exact ⟨by rw [hd.out], rfl⟩
            · have h2' : ¬ (a : Int) ≤ 213 := by omega
              have hd : Hid (liveAt p a = false) := by show _ = _; unfold liveAt; simp [h2]
              clear h1 h2 HIS HAT HL HL' hxb hpb
              go_wp2
              go_meet
              exact ⟨by rw [hd.out], rfl⟩
          · have hd : Hid (liveAt p a = false) := by show _ = _; unfold liveAt; rw [decide_eq_false h1]; rfl
            have h1' : (p.getD a 0 == 1) = false := by rw [beq_eq_false_iff_ne]; exact h1
            generalize p.getD a 0 = x at hx h1 h1' hxb
            clear HIS HAT HL HL' hpb
            go_wp2
            go_meet
            exact ⟨by rw [hd.out], rfl⟩
        case rest =>
          obtain ⟨rfl, rfl⟩ := hcut
          clear hx hxb
          obtain ⟨b, HNX⟩ : ∃ b, Hid (rNext p a = b) := ⟨_, rfl⟩
          obtain ⟨o1, HNW⟩ : ∃ b, Hid (rNew p a = b) := ⟨_, rfl⟩
          have hbb : a < b ∧ b ≤ 500 := by
            have := HPY.out.at (a + 10)
            rw [← HNX.out]; unfold rNext; split <;> omega
          go_upto_if 35 with fail
          go_cut [7, 10] from 16 to 88 (fun a7 a10 wx => rBad p a = false ∧ a7 = .int .i64 ((b : Int) - 1) ∧ Row wx go o1.arr 130 ∧ Off (· = go) wc wx)
          case first =>
            cases hlv : liveAt p a
            · have HB : Hid (rBad p a = false) := by show _ = _; unfold rBad; rw [hlv]; rfl
              have HO : Hid (o1 = O.zero) := by show _ = _; rw [← HNW.out]; unfold rNew; rw [hlv]; rfl
              have HX : Hid (b = a + 1) := by show _ = _; rw [← HNX.out]; unfold rNext; rw [hlv]; rfl
              clear hlv
              go_wp2
              go_meet
              exact ⟨HB.out, by rw [HX.out]; simp, by rw [HO.out]; exact q2, Off.refl _ _⟩
            · have hl2 : a ≤ 213 := by unfold liveAt at hlv; simp at hlv; exact hlv.2
              have HOA : Hid (o1 = oAt p a) := by show _ = _; rw [← HNW.out]; unfold rNew; rw [hlv]; rfl
              have HXX : Hid (b = a + 11 + (p.getD (a + 10) 0).toNat) := by show _ = _; rw [← HNX.out]; unfold rNext; rw [hlv]; rfl
              have HK1 : Hid (getN (strOfNums p) a 1 = 1) := by
                show _ = _
                rw [getN_one p HPY.out a (by rw [HPL.out]; omega)]
                unfold liveAt at hlv; simp only [Bool.and_eq_true, decide_eq_true_eq] at hlv; exact hlv.1
              have HVB : Hid (rBad p a = overAt p a) := by show _ = _; unfold rBad; rw [hlv]; rfl
              have HG10 : Hid (getN (strOfNums p) (a + 10) 1 = p.getD (a + 10) 0) := getN_one p HPY.out (a + 10) (by rw [HPL.out]; omega)
              have HG9 : Hid (getN (strOfNums p) (a + 9) 1 = p.getD (a + 9) 0) := getN_one p HPY.out (a + 9) (by rw [HPL.out]; omega)
              have f10 := HPY.out.at (a + 10)
              have f1 := getN_fits (strOfNums p) (a + 1) 2
              have f2 := getN_fits (strOfNums p) (a + 3) 4
              have f3 := getN_fits (strOfNums p) (a + 7) 2
              have N1 := num_at p (a + 1) 2 _ rfl HPL.out (by decide) (by omega)
              have N2 := num_at p (a + 3) 4 _ rfl HPL.out (by decide) (by omega)
              have N3 := num_at p (a + 7) 2 _ rfl HPL.out (by decide) (by omega)
              rw [show ((a + 1 : Nat) : Int) = (a : Int) + 1 by omega] at N1
              rw [show ((a + 3 : Nat) : Int) = (a : Int) + 3 by omega] at N2
              rw [show ((a + 7 : Nat) : Int) = (a : Int) + 7 by omega] at N3
              obtain ⟨v1, HV1⟩ : ∃ v, Hid (getN (strOfNums p) (a + 1) 2 = v) := ⟨_, rfl⟩
              obtain ⟨v2, HV2⟩ : ∃ v, Hid (getN (strOfNums p) (a + 3) 4 = v) := ⟨_, rfl⟩
              obtain ⟨v3, HV3⟩ : ∃ v, Hid (getN (strOfNums p) (a + 7) 2 = v) := ⟨_, rfl⟩
              obtain ⟨v4, HV4⟩ : ∃ v, Hid (p.getD (a + 9) 0 = v) := ⟨_, rfl⟩
              obtain ⟨x10, HV5⟩ : ∃ v, Hid ((p.getD (a + 10) 0).toNat = v) := ⟨_, rfl⟩
              have hx10 : p.getD (a + 10) 0 = (x10 : Int) := by rw [← HV5.out]; omega
              have c10 := HAT.out (a + 10) (by omega) wc _ _ d0
              have H9 : Hid (∀ w', Row w' w.heap.size (bs p) 34 → w'.cell? ⟨w.heap.size, a + 9, none⟩ = some (.int .u8 v4)) := fun w' h => by rw [← HV4.out]; exact HAT.out (a + 9) (by omega) w' _ _ h
              rw [HV1.out] at N1 f1
              rw [HV2.out] at N2 f2
              rw [HV3.out] at N3 f3
              rw [hx10] at c10
              rw [HV5.out] at HXX
              have HN1 : Hid _ := N1
              have HN2 : Hid _ := N2
              have HN3 : Hid _ := N3
              have hx255 : x10 ≤ 255 := by omega
              have HOV : Hid (overAt p a = decide ((213 : Int) - a < x10)) := by show _ = _; unfold overAt; rw [hx10]
              clear N1 N2 N3 hlv
              have e10 : IntKind.i64.wrap ((a : Int) + 10) = (a : Int) + 10 := by rw [IntKind.wrap_i64]; omega
              have t10 : ((a : Int) + 10).toNat = a + 10 := by omega
              have b10 : (a : Int) + 10 < 224 := by omega
              clear hpb
              go_upto_region 9 with fail
              clear c10 e10 t10 b10
              have u1 : IntKind.u16.wrap v1 = v1 := by rw [IntKind.wrap_u16]; omega
              have u2 : IntKind.u32.wrap v2 = v2 := by rw [IntKind.wrap_u32]; omega
              have u3 : IntKind.u16.wrap v3 = v3 := by rw [IntKind.wrap_u16]; omega
              have u1' : v1 % 65536 = v1 := by omega
              have u2' : v2 % 4294967296 = v2 := by omega
              have u3' : v3 % 65536 = v3 := by omega
              have e1 : IntKind.i64.wrap ((a : Int) + 1) = (a : Int) + 1 := by rw [IntKind.wrap_i64]; omega
              have e3 : IntKind.i64.wrap ((a : Int) + 3) = (a : Int) + 3 := by rw [IntKind.wrap_i64]; omega
              have e7 : IntKind.i64.wrap ((a : Int) + 7) = (a : Int) + 7 := by rw [IntKind.wrap_i64]; omega
              have e9 : IntKind.i64.wrap ((a : Int) + 9) = (a : Int) + 9 := by rw [IntKind.wrap_i64]; omega
              have t9 : ((a : Int) + 9).toNat = a + 9 := by omega
              have b9 : (a : Int) + 9 < 224 := by omega
              have n9 : ¬ (a : Int) + 9 < 0 := by omega
              have hpb : (bs p).size = 224 := by rw [bs_size, HPL.out]
              refine wp_region_held_drew (S := fun w' => Row w' w.heap.size (bs p) 34 ∧ Off (· = go) wc w') (by kernel_rfl) ⟨d0, (Off.refl _ _).drew⟩ fun hS => ?_
              have q2 : Row wc.drew go #[.bool false, .int .u16 0, .int .u32 0, .int .u16 0, .int .u8 0, .string ByteArray.empty] 130 := q2
              generalize wc.drew = wd at hS q2 ⊢
              refine tkH (i := 0) (v := .agg (bs p)) rfl (by kernel_rfl) (fun _ _ _ h => h) (yields_row (by rfl) 34 (.tmp 3) rfl w.heap.size rfl 34 (bs p) (fun w h => h.1) 224 5 Try.underlying34 size34 hpb) hS ?_
              try simp only [Act.put, nz0, nz1, nz2, nz3, nz4, nz5]
              refine tkH (i := 1) (v := .int .i64 a) rfl (by kernel_rfl) (fun _ _ _ h => h) (Or.inl ⟨by rfl, fun w _ => by go_simp⟩) hS ?_
              try simp only [Act.put, nz0, nz1, nz2, nz3, nz4, nz5]
              refine tkH (i := 2) (v := .int .i64 ((a : Int) + 1)) rfl (by kernel_rfl) (fun _ _ _ h => h) (Or.inl ⟨by rfl, fun w _ => by go_simp⟩) hS ?_
              try simp only [Act.put, nz0, nz1, nz2, nz3, nz4, nz5]
              refine tkH (i := 5) (v := .agg (bs p)) rfl (by kernel_rfl) (fun _ _ _ h => h) (yields_row (by rfl) 34 (.tmp 3) rfl w.heap.size rfl 34 (bs p) (fun w h => h.1) 224 5 Try.underlying34 size34 hpb) hS ?_
              try simp only [Act.put, nz0, nz1, nz2, nz3, nz4, nz5]
              refine tkH (i := 6) (v := .int .i64 a) rfl (by kernel_rfl) (fun _ _ _ h => h) (Or.inl ⟨by rfl, fun w _ => by go_simp⟩) hS ?_
              try simp only [Act.put, nz0, nz1, nz2, nz3, nz4, nz5]
              refine tkH (i := 7) (v := .int .i64 ((a : Int) + 3)) rfl (by kernel_rfl) (fun _ _ _ h => h) (Or.inl ⟨by rfl, fun w _ => by go_simp⟩) hS ?_
              try simp only [Act.put, nz0, nz1, nz2, nz3, nz4, nz5]
              refine tkH (i := 10) (v := .agg (bs p)) rfl (by kernel_rfl) (fun _ _ _ h => h) (yields_row (by rfl) 34 (.tmp 3) rfl w.heap.size rfl 34 (bs p) (fun w h => h.1) 224 5 Try.underlying34 size34 hpb) hS ?_
              try simp only [Act.put, nz0, nz1, nz2, nz3, nz4, nz5]
              refine tkH (i := 11) (v := .int .i64 a) rfl (by kernel_rfl) (fun _ _ _ h => h) (Or.inl ⟨by rfl, fun w _ => by go_simp⟩) hS ?_
              try simp only [Act.put, nz0, nz1, nz2, nz3, nz4, nz5]
              refine tkH (i := 12) (v := .int .i64 ((a : Int) + 7)) rfl (by kernel_rfl) (fun _ _ _ h => h) (Or.inl ⟨by rfl, fun w _ => by go_simp⟩) hS ?_
              try simp only [Act.put, nz0, nz1, nz2, nz3, nz4, nz5]
              refine tkH (i := 15) (v := .int .i64 a) rfl (by kernel_rfl) (fun _ _ _ h => h) (Or.inl ⟨by rfl, fun w _ => by go_simp⟩) hS ?_
              try simp only [Act.put, nz0, nz1, nz2, nz3, nz4, nz5]
              refine tkH (i := 16) (v := .int .i64 ((a : Int) + 9)) rfl (by kernel_rfl) (fun _ _ _ h => h) (Or.inl ⟨by rfl, fun w _ => by go_simp⟩) hS ?_
              try simp only [Act.put, nz0, nz1, nz2, nz3, nz4, nz5]
              refine tkH (i := 17) (v := .pointer (some ⟨w.heap.size, a + 9, none⟩)) rfl (by kernel_rfl) (fun _ _ _ h => h) (Or.inl ⟨by rfl, fun w _ => by go_simp⟩) hS ?_
              try simp only [Act.put, nz0, nz1, nz2, nz3, nz4, nz5]
              refine tkH (i := 18) (v := .int .u8 v4) rfl (by kernel_rfl) (fun _ _ _ h => h) (Or.inl ⟨by rfl, fun w h => by have c := H9.out w h.1; go_simp⟩) hS ?_
              try simp only [Act.put, nz0, nz1, nz2, nz3, nz4, nz5]
              refine wpAnyH_ready (rs := [3]) (by kernel_rfl) (by simp) ?_
              refine AllReadyH.cons rfl (fun K hK => ?_) AllReadyH.nil
              go_simp
              go_at_call 93
              refine Calls.mono (HN1.out _) ?_
              rintro e w1_3 ⟨rfl, hcb⟩
              have q2 := q2.below hcb q2.lt
              refine hK.out _ _ (⟨hS.1.below hcb hS.1.lt, hS.2.trans (Off.of_below (F := fun _ => False) hcb) (fun j h => h.elim)⟩) fun hS => ?_
              try simp only [Act.put, nz0, nz1, nz2, nz3, nz4, nz5]
              clear hcb
              refine tkH (i := 4) (v := .int .u16 v1) rfl (by kernel_rfl) (fun _ _ _ h => h) (Or.inl ⟨by rfl, fun w _ => by go_simp⟩) hS ?_
              try simp only [Act.put, nz0, nz1, nz2, nz3, nz4, nz5]
              refine wpAnyH_ready (rs := [8]) (by kernel_rfl) (by simp) ?_
              refine AllReadyH.cons rfl (fun K hK => ?_) AllReadyH.nil
              go_simp
              go_at_call 93
              refine Calls.mono (HN2.out _) ?_
              rintro e w2_8 ⟨rfl, hcb⟩
              have q2 := q2.below hcb q2.lt
              refine hK.out _ _ (⟨hS.1.below hcb hS.1.lt, hS.2.trans (Off.of_below (F := fun _ => False) hcb) (fun j h => h.elim)⟩) fun hS => ?_
              try simp only [Act.put, nz0, nz1, nz2, nz3, nz4, nz5]
              clear hcb
              refine tkH (i := 9) (v := .int .u32 v2) rfl (by kernel_rfl) (fun _ _ _ h => h) (Or.inl ⟨by rfl, fun w _ => by go_simp⟩) hS ?_
              try simp only [Act.put, nz0, nz1, nz2, nz3, nz4, nz5]
              refine wpAnyH_ready (rs := [13]) (by kernel_rfl) (by simp) ?_
              refine AllReadyH.cons rfl (fun K hK => ?_) AllReadyH.nil
              go_simp
              go_at_call 93
              refine Calls.mono (HN3.out _) ?_
              rintro e w3_13 ⟨rfl, hcb⟩
              have q2 := q2.below hcb q2.lt
              refine hK.out _ _ (⟨hS.1.below hcb hS.1.lt, hS.2.trans (Off.of_below (F := fun _ => False) hcb) (fun j h => h.elim)⟩) fun hS => ?_
              try simp only [Act.put, nz0, nz1, nz2, nz3, nz4, nz5]
              clear hcb
              refine tkH (i := 14) (v := .int .u16 v3) rfl (by kernel_rfl) (fun _ _ _ h => h) (Or.inl ⟨by rfl, fun w _ => by go_simp⟩) hS ?_
              try simp only [Act.put, nz0, nz1, nz2, nz3, nz4, nz5]
              refine tkH (i := 19) (v := .agg #[.int .u16 v3, .int .u8 v4]) rfl (by kernel_rfl) (fun _ _ _ h => h) (yields_build (by rfl) 106 #[(0, .tmp 55), (1, .tmp 59)] rfl [(0, .int .u16 v3), (1, .int .u8 v4)] (by rfl) _ (built26two v3 v4)) hS ?_
              try simp only [Act.put, nz0, nz1, nz2, nz3, nz4, nz5]
              refine tkH (i := 20) (v := .agg #[.bool true, .int .u16 v1, .int .u32 v2, .int .u16 v3, .int .u8 v4, .string ByteArray.empty]) rfl (by kernel_rfl) (fun _ _ _ h => h) (yields_build (by rfl) 130 #[(0, .const (.bool true)), (1, .tmp 45), (2, .tmp 50), (3, .tmp 60)] rfl [(0, .bool true), (1, .int .u16 v1), (2, .int .u32 v2), (3, .agg #[.int .u16 v3, .int .u8 v4])] (by rfl) _ (built81four v1 v2 v3 v4)) hS ?_
              try simp only [Act.put, nz0, nz1, nz2, nz3, nz4, nz5]
              refine wpAnyH_ready (rs := [21]) (by kernel_rfl) (by simp) ?_
              refine AllReadyH.cons rfl (fun K hK => ?_) AllReadyH.nil
              refine step_cells rfl 130 (.tmp 9) (.tmp 61) rfl go #[.bool true, .int .u16 v1, .int .u32 v2, .int .u16 v3, .int .u8 v4, .string ByteArray.empty] rfl rfl 130 _ q2 6 size130 rfl rfl (by simp [Value.oneCell']) (hK.out _ _ ⟨hS.1.other (by omega) _, hS.2.trans (Off.of_setRow (F := (· = go)) _ _ _ rfl) (fun j h => by first | exact Or.inl h | (right; omega))⟩ fun hS => ?_)
              try simp only [Act.put, nz0, nz1, nz2, nz3, nz4, nz5]
              have q2 := q2.set #[.bool true, .int .u16 v1, .int .u32 v2, .int .u16 v3, .int .u8 v4, .string ByteArray.empty]
              generalize w3_13.setRow go #[.bool true, .int .u16 v1, .int .u32 v2, .int .u16 v3, .int .u8 v4, .string ByteArray.empty] = w4_21 at q2 hS ⊢
              refine wpAnyH_done (by kernel_rfl) ?_ _
              clear u1 u2 u3 u1' u2' u3' e1 e3 e7 e9 t9 b9 n9 HN1 HN2 HN3 hpb
              have ew1 : IntKind.i64.wrap (224 - (a : Int)) = 224 - (a : Int) := by rw [IntKind.wrap_i64]; omega
              have ew2 : IntKind.i64.wrap (224 - (a : Int) - 11) = 213 - (a : Int) := by rw [IntKind.wrap_i64]; omega
              by_cases hov : (213 : Int) - a < x10
              · have HB : Hid (rBad p a = true) := by show _ = _; rw [HVB.out, HOV.out, decide_eq_true hov]
                have HRN : Hid (isU no p = false) := by show _ = _; rw [← HIS.out]; unfold rIs; rw [HN.out, rO_bad p l a k n HR.out hkn ha2 HB.out]
                have hov' : (x10 : Int) > 213 - (a : Int) := by omega
                have y1 := d1.off hS.2 (show ¬ w.heap.size + 1 = go by omega)
                have yb : Below w.heap.size w w4_21 := lb.trans (hS.2.below lb.size (fun k q => by omega))
                go_wp2_with (first
                  | (refine build_none rfl 103 rfl _ built103 ?_)
                  | (refine store_cells rfl 103 (.tmp 4) (.tmp 67) rfl (w.heap.size + 1) #[.int .u64 0, .slice none 0 0] rfl rfl 103 _ y1 2 size103 rfl rfl (by simp [Value.oneCell']) ?_))
                refine bodyPost_ret (v := .tuple #[.agg #[.int .u64 0, .slice none 0 0], .bool false]) ?_ rfl ⟨.slice none 0 0, by rw [HRN.out]; rfl, by rw [HRN.out]; exact Or.inl ⟨rfl, rfl⟩, below_setRow yb (by omega) _⟩
                exact ret_cell2 (fn := Try.f65) rfl _ _ (w.heap.size + 1) 103 #[.int .u64 0, .slice none 0 0] _ _ rfl rfl (y1.set _) Try.underlying103 rfl size103
              · have HB : Hid (rBad p a = false) := by show _ = _; rw [HVB.out, HOV.out, decide_eq_false hov]
                have hov' : ¬ (x10 : Int) > 213 - (a : Int) := by omega
                obtain ⟨sx, sc, HSL, HST⟩ := slice_mid w.heap.size (a + 11) x10 p HPL.out (by omega) _ _ rfl rfl
                have hst := HST _ _ hS.1
                obtain ⟨B, HBB⟩ : ∃ B, Hid (strOfNums ((p.drop (a + 11)).take x10) = B) := ⟨_, rfl⟩
                rw [HBB.out] at hst
                have e11 : IntKind.i64.wrap ((a : Int) + 11) = ((a + 11 : Nat) : Int) := by rw [IntKind.wrap_i64]; omega
                obtain ⟨L11, HL11⟩ : ∃ L : Int, Hid (((a + 11 : Nat) : Int) = L) := ⟨_, rfl⟩
                obtain ⟨U11, HU11⟩ : ∃ L : Int, Hid (((a + 11 : Nat) : Int) + x10 = L) := ⟨_, rfl⟩
                rw [HL11.out] at e11
                have e12 : IntKind.i64.wrap (L11 + (x10 : Int)) = U11 := by rw [IntKind.wrap_i64, ← HU11.out, ← HL11.out]; omega
                rw [HU11.out, HL11.out] at HSL
                have e14 : IntKind.i64.wrap (10 + (x10 : Int)) = 10 + (x10 : Int) := by rw [IntKind.wrap_i64]; omega
                have e15 : IntKind.i64.wrap ((a : Int) + (10 + (x10 : Int))) = (b : Int) - 1 := by rw [IntKind.wrap_i64, HXX.out]; omega
                have HO : Hid (o1.arr = #[.bool true, .int .u16 v1, .int .u32 v2, .int .u16 v3, .int .u8 v4, .string B]) := by
                  show _ = _
                  rw [HOA.out]
                  unfold oAt
                  rw [HK1.out, if_neg (by decide), HV1.out, HV2.out, HV3.out, HG9.out, HG10.out, HV4.out, HV5.out, HBB.out]
                  rfl
                have c5 := row_at q2 5 _ rfl
                have fz := row_frozen q2 5
                have q3 : Row (w4_21.setCell ⟨go, 5, none⟩ (.string B)) go #[.bool true, .int .u16 v1, .int .u32 v2, .int .u16 v3, .int .u8 v4, .string B] 130 := row_set q2 5 (.string B)
                have o3 : Off (· = go) wc (w4_21.setCell ⟨go, 5, none⟩ (.string B)) := hS.2.trans (Off.of_setCell (F := (· = go)) _ _ _ rfl) (fun j h => Or.inl h)
                clear HST HIS HAT HL HL' hov
                go_wp2
                go_meet
                exact ⟨HB.out, rfl, by rw [HO.out]; exact q3, o3⟩
          case rest =>
            obtain ⟨HBF, rfl, qo, oo⟩ := hcut
            have HBF : Hid _ := HBF
            have e0 := d0.off oo (show ¬ w.heap.size = go by omega)
            have e1 := d1.off oo (show ¬ w.heap.size + 1 = go by omega)
            have e2 := d2.off oo (show ¬ gu = go by omega)
            have eo := lo.offAny oo (fun b hb q => by have := hob b hb; omega)
            have eb : Below w.heap.size w wc := lb.trans (oo.below lb.size (fun k q => by omega))
            clear d0 d1 d2 lo lb oo q2 hob
            have HLN := show Hid _ from (rO_fits p k l a HR.out).2
            have HST : Hid (rO p (k + 1) = some (l ++ [o1], b)) := by show _ = _; rw [rO_step p l a k HR.out ha2 HBF.out, HNW.out, HNX.out]
            obtain ⟨live, pg, ts, np, ns, dl⟩ := o1
            obtain ⟨oa, cap, rfl⟩ := eo.form
            obtain ⟨m, HM⟩ : ∃ m, Hid (l.length = m) := ⟨_, rfl⟩
            rw [HM.out] at e2 eo
            have e16 : IntKind.i64.wrap ((b : Int) - 1 + 1) = b := by rw [IntKind.wrap_i64]; omega
            have hgo := qo.lt
            have hgu := e2.lt
            have qo : Row wc go #[.bool live, .int .u16 pg, .int .u32 ts, .int .u16 np, .int .u8 ns, .string dl] 130 := qo
            have l4 : Row (wc.alloc (.cells #[.bool live, .int .u16 pg, .int .u32 ts, .int .u16 np, .int .u8 ns, .string dl] 130)) wc.heap.size #[.bool live, .int .u16 pg, .int .u32 ts, .int .u16 np, .int .u8 ns, .string dl] 130 := Row.new _ _ _
            have e0 := e0.alloc (.cells #[.bool live, .int .u16 pg, .int .u32 ts, .int .u16 np, .int .u8 ns, .string dl] 130)
            have e1 := e1.alloc (.cells #[.bool live, .int .u16 pg, .int .u32 ts, .int .u16 np, .int .u8 ns, .string dl] 130)
            have e2' := e2.alloc (.cells #[.bool live, .int .u16 pg, .int .u32 ts, .int .u16 np, .int .u8 ns, .string dl] 130)
            have eo := eo.alloc (.cells #[.bool live, .int .u16 pg, .int .u32 ts, .int .u16 np, .int .u8 ns, .string dl] 130)
            have eb' := eb.alloc eb.size (.cells #[.bool live, .int .u16 pg, .int .u32 ts, .int .u16 np, .int .u8 ns, .string dl] 130)
            have hws : gu + 1 ≤ (wc.alloc (.cells #[.bool live, .int .u16 pg, .int .u32 ts, .int .u16 np, .int .u8 ns, .string dl] 130)).heap.size := by simp; omega
            have hr := fun ty => eo.snocP ty wc.heap.size ⟨live, pg, ts, np, ns, dl⟩ l4 hws (by have := HLN.out; omega)
            have hbk := eo.blk
            have HHR : Hid _ := hr
            have HBK : Hid _ := hbk
            have c1 := row_at e2 1 _ rfl
            clear hr hbk HIS HAT HL HL' hpb eo
            go_upto_region 5 with (first
              | (refine load_cells rfl 130 (.tmp 9) rfl go rfl 130 #[.bool live, .int .u16 pg, .int .u32 ts, .int .u16 np, .int .u8 ns, .string dl] qo 6 Try.underlying130 rfl size130 rfl ?_)
              | (refine wpList_copy rfl (.tmp 84) (.tmp 86) 101 rfl (.slice oa m cap) (.slice (some ⟨wc.heap.size, 0, none⟩) 1 1) rfl rfl (T := fun v' w' => Own w' (gu + 1) v' (l ++ [⟨live, pg, ts, np, ns, dl⟩]) ∧ (wc.alloc (.cells #[.bool live, .int .u16 pg, .int .u32 ts, .int .u16 np, .int .u8 ns, .string dl] 130)).grownBy w' (Value.slice oa m cap).ownBlock) (fun ty => HHR.out ty) ?_
                 rintro v2 w7 ⟨lo7, gr⟩
                 obtain ⟨oa2, cap2, hf7⟩ := lo7.form
                 generalize (l ++ [(⟨live, pg, ts, np, ns, dl⟩ : O)]).length = m2 at hf7
                 subst hf7
                 have hne : ∀ k, k ≤ gu → (Value.slice oa m cap).ownBlock ≠ some k := fun k hk q => by have := HBK.out k q; omega
                 have e0 := e0.grown gr (hne _ (by omega))
                 have e1 := e1.grown gr (hne _ (by omega))
                 have e2 := e2'.grown gr (hne _ (by omega))
                 have eb : Below w.heap.size w w7 := eb'.grown gr eb'.size (fun k q => by have := HBK.out k q; omega)
                 clear gr hne eb' e2' HHR HBK qo l4 hws
                 have c7 := row_at e2 1 _ rfl
                 have f7 := row_frozen e2 1))
            have e0 := row_setCell_other e0 (show w.heap.size ≠ gu by omega) 1 (.slice oa2 m2 cap2)
            have e1 := row_setCell_other e1 (show w.heap.size + 1 ≠ gu by omega) 1 (.slice oa2 m2 cap2)
            have e2 : Row (w7.setCell ⟨gu, 1, none⟩ (.slice oa2 m2 cap2)) gu #[.int .u64 lsn, .slice oa2 m2 cap2] 103 := row_set e2 1 (.slice oa2 m2 cap2)
            have lo7 := lo7.setAt ⟨gu, 1, none⟩ (by simp) (.slice oa2 m2 cap2)
            have eb := eb.setCell (p := ⟨gu, 1, none⟩) (show w.heap.size ≤ gu by omega) (.slice oa2 m2 cap2)
            clear c7 f7
            generalize w7.setCell ⟨gu, 1, none⟩ (.slice oa2 m2 cap2) = w8 at e0 e1 e2 lo7 eb ⊢
            go_wp2
            go_roundw
            case rel => exact ⟨k + 1, b, _, _, by omega, by go_num, rfl, by omega, HST.out, ⟨e0, e1, e2, lo7, eb⟩⟩
            case measure => simp [intOf]; omega
      · rw [decide_eq_false hc]
        have HF : Hid (rO p n = some (l, a)) := rO_end p l a k n HR.out hk (by omega)
        have HFT := show Hid _ from rO_fits p n l a HF.out
        have HPU : Hid _ := fun w h => rputUndo_any no lsn v l w h HFT.out.1 hno FL.out
        have hul := putU_length no lsn l
        have heq := equal34 (putU no lsn l) p hul HPL.out
        have HI2 : Hid (isU no p = (may l && decide (putU no lsn l = p))) := by
          show _ = _
          rw [← HIS.out]; unfold rIs; rw [HN.out, HF.out, HL.out]
        obtain ⟨R, HRR⟩ : ∃ R, Hid (putU no lsn l = R) := ⟨_, rfl⟩
        rw [HRR.out] at HPU hul heq HI2
        have hRb : (bs R).size = 224 := by rw [bs_size, hul]
        obtain ⟨oa, cap, rfl⟩ := lo.form
        have q1 : ∀ w', Row (World.alloc w' (.cells (bs (zs 224)) 34)) w'.heap.size (bs (zs 224)) 34 := fun _ => Row.new _ _ _
        obtain ⟨m, HM⟩ : ∃ m, Hid (l.length = m) := ⟨_, rfl⟩
        obtain ⟨my, HMY⟩ : ∃ m, Hid (may l = m) := ⟨_, rfl⟩
        rw [HMY.out] at HPU HI2
        have HPU2 : Hid _ := HPU.out _ lo.olds
        rw [HM.out] at HPU2 l2
        clear HPU
        go_upto_region 17 with (first
          | (refine load_cells rfl 103 (.tmp 6) rfl gu rfl 103 #[.int .u64 lsn, .slice oa m cap] l2 2 Try.underlying103 rfl size103 rfl ?_)
          | (go_at_call 54; refine Calls.mono HPU2.out ?_; clear HPU2; rintro e w6 ⟨rfl, h6⟩
             have q6 : Row (w6.alloc (.cells (bs (zs 224)) 34)) w6.heap.size (bs (zs 224)) 34 := Row.new _ _ _)
          | (refine store_row rfl 34 (.tmp 11) (.tmp 93) rfl w6.heap.size R rfl rfl 34 _ q6 224 size34 (by rw [bs_size, zs_length]) hul ?_))
        have lo := lo.keep h6
        have l0 := l0.below h6 l0.lt
        have l1' := l1'.below h6 l1'.lt
        have l2 := l2.below h6 l2.lt
        have lb := lb.trans (h6.mono lb.size)
        have hg6 := l2.lt
        have ob : Below w6.heap.size w6 ((w6.alloc (.cells (bs (zs 224)) 34)).setRow w6.heap.size (bs R)) := below_setRow ((Below.refl _ _).alloc (Nat.le_refl _) _) (Nat.le_refl _) _
        have lo := lo.keep ob
        have l0 := (l0.alloc (.cells (bs (zs 224)) 34)).other (g := w6.heap.size) (by omega) (bs R)
        have l1' := (l1'.alloc (.cells (bs (zs 224)) 34)).other (g := w6.heap.size) (by omega) (bs R)
        have l2 := (l2.alloc (.cells (bs (zs 224)) 34)).other (g := w6.heap.size) (by omega) (bs R)
        have q6 := q6.set (bs R)
        have lb := below_setRow (lb.alloc lb.size (.cells (bs (zs 224)) 34)) lb.size (bs R)
        clear h6 ob
        generalize (w6.alloc (.cells (bs (zs 224)) 34)).setRow w6.heap.size (bs R) = w7 at lo l0 l1' l2 q6 lb ⊢
        generalize w6.heap.size = g6 at q6 hg6 ⊢
        cases my
        · have HI3 : Hid (isU no p = false) := by show _ = _; rw [HI2.out]; rfl
          clear HI2 heq
          go_wp2_with (first
            | (refine build_none rfl 103 rfl _ built103 ?_)
            | (refine store_cells rfl 103 (.tmp 4) (.tmp 102) rfl (w.heap.size + 1) #[.int .u64 0, .slice none 0 0] rfl rfl 103 _ l1' 2 size103 rfl rfl (by simp [Value.oneCell']) ?_))
          refine bodyPost_ret (v := .tuple #[.agg #[.int .u64 0, .slice none 0 0], .bool false]) ?_ rfl ⟨.slice none 0 0, by rw [HI3.out]; rfl, by rw [HI3.out]; exact Or.inl ⟨rfl, rfl⟩, below_setRow lb (by omega) _⟩
          exact ret_cell2 (fn := Try.f65) rfl _ _ (w.heap.size + 1) 103 #[.int .u64 0, .slice none 0 0] _ _ rfl rfl (l1'.set _) Try.underlying103 rfl size103
        · by_cases hq : R = p
          · have HI3 : Hid (isU no p = true) := by show _ = _; rw [HI2.out, decide_eq_true hq]; rfl
            have HUO : Hid (uOf p = l) := by
              obtain ⟨x, hx⟩ := rIs_true no p HI3.out
              rw [HN.out, HF.out] at hx
              simp only [Option.some.injEq, Prod.mk.injEq] at hx
              exact hx.1.symm
            rw [decide_eq_true hq] at heq
            clear hq HI2
            go_wp2_with (first
              | (refine load_row_g rfl 34 (.tmp 11) rfl g6 rfl 34 (bs R) q6 224 5 Try.underlying34 size34 hRb ?_)
              | (refine load_row_g rfl 34 (.tmp 3) rfl w.heap.size rfl 34 (bs p) l0 224 5 Try.underlying34 size34 hpb ?_)
              | (refine load_cells rfl 103 (.tmp 6) rfl gu rfl 103 #[.int .u64 lsn, .slice oa m cap] l2 2 Try.underlying103 rfl size103 rfl ?_)
              | (refine store_cells rfl 103 (.tmp 4) (.tmp 103) rfl (w.heap.size + 1) #[.int .u64 lsn, .slice oa m cap] rfl rfl 103 _ l1' 2 size103 rfl rfl (by simp [Value.oneCell']) ?_))
            refine bodyPost_ret (v := .tuple #[.agg #[.int .u64 lsn, .slice oa m cap], .bool true]) ?_ rfl ⟨.slice oa m cap, by rw [HI3.out, ← HL.out]; rfl, by rw [HI3.out, if_pos rfl, HUO.out, ← HM.out]; exact (lo.setRow (w.heap.size + 1) (by omega) _).olds, below_setRow lb (by omega) _⟩
            exact ret_cell2 (fn := Try.f65) rfl _ _ (w.heap.size + 1) 103 #[.int .u64 lsn, .slice oa m cap] _ _ rfl rfl (l1'.set _) Try.underlying103 rfl size103
          · have HI3 : Hid (isU no p = false) := by show _ = _; rw [HI2.out, decide_eq_false hq]; rfl
            rw [decide_eq_false hq] at heq
            clear hq HI2
            go_wp2_with (first
              | (refine load_row_g rfl 34 (.tmp 11) rfl g6 rfl 34 (bs R) q6 224 5 Try.underlying34 size34 hRb ?_)
              | (refine load_row_g rfl 34 (.tmp 3) rfl w.heap.size rfl 34 (bs p) l0 224 5 Try.underlying34 size34 hpb ?_)
              | (refine build_none rfl 103 rfl _ built103 ?_)
              | (refine store_cells rfl 103 (.tmp 4) (.tmp 102) rfl (w.heap.size + 1) #[.int .u64 0, .slice none 0 0] rfl rfl 103 _ l1' 2 size103 rfl rfl (by simp [Value.oneCell']) ?_))
            refine bodyPost_ret (v := .tuple #[.agg #[.int .u64 0, .slice none 0 0], .bool false]) ?_ rfl ⟨.slice none 0 0, by rw [HI3.out]; rfl, by rw [HI3.out]; exact Or.inl ⟨rfl, rfl⟩, below_setRow lb (by omega) _⟩
            exact ret_cell2 (fn := Try.f65) rfl _ _ (w.heap.size + 1) 103 #[.int .u64 0, .slice none 0 0] _ _ rfl rfl (l1'.set _) Try.underlying103 rfl size103
end Go.Proofs.Ytehogiondcpbcaa
