/-
  Proved here: the document's Unpack (varveref10).
-/
import Derived.Test.YtgnedbagelhcbaaRPack
namespace Go.Proofs.Ytgnedbagelhcbaa
open Go.ChangeShapes Go.WideShapes Go.ChangeAt Go.RowKit
set_option linter.unusedVariables false
set_option linter.unusedSimpArgs false
set_option maxRecDepth 20000

theorem packed_z (e n o : Int) (l : List Int) (he : 0 ≤ e ∧ e ≤ 4294967295) (hn : 0 ≤ n ∧ n ≤ 4294967295) (hl : 1 ≤ l.length ∧ l.length ≤ 214) (hb : Bytes l) : uZ (packB e n o l) = l.length := by
  have hpl : (padT (packT o l)).length = 224 := padT_length _ (by rw [packT_length]; omega)
  have hpb := padT_bytes _ (packT_bytes o l hb)
  have p0 : Sl.payN (packB e n o l) 4 = padT (packT o l) := Sl.pay_sealed (e * 4294967296 + n) (padT (packT o l)) hpl
  have hat : ∀ j, (padT (packT o l)).getD j 0 = (packT o l).getD j 0 := padT_at _ (by rw [packT_length]; omega)
  unfold uZ; rw [p0]
  exact getN_tx hpb _ (by omega) 8 2 (by omega) (by omega) fun i hi => by rw [hat, pack_len _ _ _ hi]
/-- A block whose length is too great is no chunk's. -/
theorem isB_long (b : List Int) (hb : b.length = 256) (hy : Bytes b) (h : 214 < uZ b) : isB b = false := by
  rw [Bool.eq_false_iff]
  intro q
  unfold isB at q
  simp only [Bool.and_eq_true, decide_eq_true_eq] at q
  obtain ⟨⟨q1, q2⟩, q3⟩ := q
  unfold packV at q3
  rw [q2, if_pos rfl, nums_tx (uL_bytes b hy)] at q3
  have hs := stamp_fits b hb hy
  have ok := q2
  unfold okC at ok
  rw [strOfNums_size] at ok
  have z := packed_z (uE b) (uN b) (uO b) (uL b) (by unfold uE; omega) (by unfold uN; omega) (of_decide_eq_true ok) (uL_bytes b hy)
  rw [q3] at z
  have := uL_length b
  omega
theorem slice_ten (g n : Nat) (p : List Int) (hp : p.length = 224) (h : n ≤ 214) (hi : Int) (hh : hi = 10 + n) :
    (∀ w, (Instr.sliceAt 128 (.pointer (some ⟨g, 0, none⟩)) (some (.int .i64 10)) (some (.int .u64 hi)) none).run Try.prog w = .ok (.slice (some ⟨g, 10, none⟩) n 214) w) ∧
      ∀ w' t, Row w' g (bs p) t → (Go.convert 72 9 (.slice (some ⟨g, 10, none⟩) n 214)).run Try.prog w' = .ok (.string (strOfNums ((p.drop 10).take n))) w' := by
  have hal : Try.prog.arrayLen 128 = 224 := by kernel_rfl
  have hel : Try.prog.elem 128 = 5 := by kernel_rfl
  have hu : Try.prog.underlying 128 = some (.array (Try.prog.arrayLen 128) (Try.prog.elem 128)) := by rw [hal, hel]; exact Try.underlying128
  have hsz : ∀ w, (sizeOf 5).run Try.prog w = .ok 1 w := fun w => by go_simp
  refine ⟨fun w => ?_, fun w' t hr => str_part hr 10 n 214 _ rfl (by omega)⟩
  rw [run_sliceAt_array_lh w 128 _ hu .i64 .u64 10 hi (by omega) (by omega) (by rw [hal]; omega), hel, hsz, hal]
  show Result.ok _ _ = _
  rw [hh, show ((10 : Int) + n).toNat = 10 + n by omega]
  unfold slicedAt
  rw [if_neg (by decide)]
  have e1 : (10 : Int).toNat = 10 := rfl
  rw [e1, show 10 + n - 10 = n by omega]
  rfl
set_option maxRecDepth 20000 in
set_option maxHeartbeats 4000000 in
theorem runpack_any (b : List Int) (w : World) (hb : b.length = 256) (hy : Bytes b) :
    Calls Try.prog 35 #[.agg (bs b)] w fun ex w' => ex = .returned (.tuple #[.agg (gotC b), .bool (isB b)]) ∧ Below w.heap.size w w' := by
  have hz1 := zero56
  have hz2 := zero128
  have hz3 := zero65
  have hbb : (bs b).size = 256 := by rw [bs_size, hb]
  have HOP : Hid _ := fun w => Sl.ropen_any b hb hy w
  have r0 : Row ((w.alloc (.cells (bs b) 56)).alloc (.cells #[.int .u32 0, .int .u32 0, .int .u64 0, .string ByteArray.empty] 65)) w.heap.size (bs b) 56 := (Row.new _ _ _).alloc _
  have r1 : Row ((w.alloc (.cells (bs b) 56)).alloc (.cells #[.int .u32 0, .int .u32 0, .int .u64 0, .string ByteArray.empty] 65)) (w.heap.size + 1) #[.int .u32 0, .int .u32 0, .int .u64 0, .string ByteArray.empty] 65 := by have := Row.new (w.alloc (.cells (bs b) 56)) #[.int .u32 0, .int .u32 0, .int .u64 0, .string ByteArray.empty] 65; simpa using this
  have ab : Below w.heap.size w ((w.alloc (.cells (bs b) 56)).alloc (.cells #[.int .u32 0, .int .u32 0, .int .u64 0, .string ByteArray.empty] 65)) := ((Below.refl _ _).alloc (Nat.le_refl _) _).alloc (by simp) _
  go_enter Try.func35, Try.ntmps35
  go_upto_region 1 with fail
  generalize (w.alloc (.cells (bs b) 56)).alloc (.cells #[.int .u32 0, .int .u32 0, .int .u64 0, .string ByteArray.empty] 65) = w1 at r0 r1 ab ⊢
  by_cases hwh : whole b = true
  · rw [opened_whole b hwh] at HOP
    have hst := stamp_fits b hb hy
    have hPl := Sl.payN_length b 4
    have HUL : Hid _ := uL_length b
    have hUl2 : (strOfNums (uL b)).size ≤ 214 := by rw [strOfNums_size]; exact uL_length b
    obtain ⟨PN, HPN⟩ : ∃ x, Hid (Sl.payN b 4 = x) := ⟨_, rfl⟩
    obtain ⟨S, HS⟩ : ∃ x, Hid (Sl.stampAt b 0 = x) := ⟨_, rfl⟩
    rw [HPN.out] at HOP hPl
    rw [HS.out] at HOP hst
    have hTz : (strOfNums PN).size = 224 := by rw [strOfNums_size, hPl]
    have HG1 : Hid _ := rget_all (strOfNums PN) 0 8 (by rw [hTz]; unfold maxLen; omega) (by decide) (by decide)
    have HG2 : Hid _ := rget_all (strOfNums PN) 8 2 (by rw [hTz]; unfold maxLen; omega) (by decide) (by decide)
    have fz := getN_fits (strOfNums PN) 8 2
    have fo := getN_fits (strOfNums PN) 0 8
    have HO' : Hid (uO b = getN (strOfNums PN) 0 8) := by show _ = _; unfold uO; rw [HPN.out]
    have HZ' : Hid (uZ b = getN (strOfNums PN) 8 2) := by show _ = _; unfold uZ; rw [HPN.out]
    obtain ⟨O, HO⟩ : ∃ x, Hid (getN (strOfNums PN) 0 8 = x) := ⟨_, rfl⟩
    obtain ⟨Z, HZ⟩ : ∃ x, Hid ((getN (strOfNums PN) 8 2).toNat = x) := ⟨_, rfl⟩
    have hZ : getN (strOfNums PN) 8 2 = (Z : Int) := by rw [← HZ.out]; omega
    rw [HO.out] at HG1 fo HO'
    rw [hZ] at HG2 HZ'
    have hZ2 : Z ≤ 65535 := by omega
    have hO2 : 0 ≤ O ∧ O ≤ 18446744073709551615 := ⟨fo.1, by have := fo.2; omega⟩
    have HB : Hid (∀ t : Nat, t = min (10 + Z) 224 → (strOfNums PN).extract 10 t = strOfNums (uL b)) := fun t ht => by
      rw [ht, extract_tx]
      have := cut_isG PN 10 Z
      rw [hPl] at this
      rw [show min 10 224 = 10 by omega] at this
      rw [this]
      unfold uL
      rw [HPN.out, HZ'.out, Int.toNat_natCast]
    obtain ⟨E, HE⟩ : ∃ x, Hid (S / 4294967296 = x) := ⟨_, rfl⟩
    obtain ⟨N, HN⟩ : ∃ x, Hid (S % 4294967296 = x) := ⟨_, rfl⟩
    have hE : 0 ≤ E ∧ E ≤ 4294967295 := by rw [← HE.out]; omega
    have hN : 0 ≤ N ∧ N ≤ 4294967295 := by rw [← HN.out]; omega
    have HUE : Hid (uE b = E) := by show _ = _; unfold uE; rw [HS.out, HE.out]
    have HUN : Hid (uN b = N) := by show _ = _; unfold uN; rw [HS.out, HN.out]
    obtain ⟨U, HU⟩ : ∃ x, Hid (strOfNums (uL b) = x) := ⟨_, rfl⟩
    rw [HU.out] at hUl2 HB
    have HPK : Hid _ := fun w => rpack_any E N O U w hE hN hO2 (by unfold maxLen; omega)
    have hVl := packV_length E N O U
    have heq := equal56 (packV E N O U) b hVl hb
    have HIB : Hid (isB b = (okC U && decide (packV E N O U = b))) := by
      show _ = _
      unfold isB
      rw [hwh, HUE.out, HUN.out, HO'.out, HU.out]; rfl
    obtain ⟨V, HV⟩ : ∃ x, Hid (packV E N O U = x) := ⟨_, rfl⟩
    rw [HV.out] at HPK hVl heq HIB
    have hVb : (bs V).size = 256 := by rw [bs_size, hVl]
    have HVL : Hid (V.length = 256) := hVl
    have HPL : Hid (PN.length = 224) := hPl
    have d1 : S.tdiv 4294967296 = E := by rw [Int.tdiv_eq_ediv_of_nonneg hst.1]; exact HE.out
    have d2 : S.tmod 4294967296 = N := by rw [Int.tmod_eq_emod_of_nonneg hst.1]; exact HN.out
    have d1' : S / 4294967296 = E := HE.out
    have d2' : S % 4294967296 = N := HN.out
    have e1 : IntKind.u32.wrap E = E := by rw [IntKind.wrap_u32]; omega
    have e2 : IntKind.u32.wrap N = N := by rw [IntKind.wrap_u32]; omega
    have e1' : E % 4294967296 = E := by omega
    have e2' : N % 4294967296 = N := by omega
    have HRES : Hid (gotC b = if isB b then chk E N O U else chk 0 0 0 ByteArray.empty) := by
      show _ = _
      unfold gotC
      rw [HUE.out, HUN.out, HO'.out, HU.out]
    have HLG : Hid (214 < Z → isB b = false) := fun h => isB_long b hb hy (by rw [HZ'.out]; omega)
    clear hb hVl hPl fz fo hZ HUL
    go_upto_region 2 with (first
      | (refine load_row rfl 56 (.tmp 1) rfl w.heap.size rfl 56 (bs b) r0 256 5 Try.underlying56 size56 hbb ?_)
      | (go_at_call 61; refine (HOP.out _).mono ?_; clear HOP; rintro ex w2 ⟨rfl, h2⟩
         have q2 : Row (w2.alloc (.cells (bs (zs 224)) 128)) w2.heap.size (bs (zs 224)) 128 := Row.new _ _ _)
      | (refine store_row rfl 128 (.tmp 5) (.tmp 18) rfl w2.heap.size PN rfl rfl 128 _ q2 224 size128 (by rw [bs_size, zs_length]) HPL.out ?_))
    have r0 := r0.below h2 r0.lt
    have r1 := r1.below h2 r1.lt
    have l2 := r1.lt
    have ab := ab.trans (h2.mono ab.size)
    have r0 := (r0.alloc (.cells (bs (zs 224)) 128)).other (g := w2.heap.size) (by omega) (bs PN)
    have r1 := (r1.alloc (.cells (bs (zs 224)) 128)).other (g := w2.heap.size) (by omega) (bs PN)
    have q2 := q2.set (bs PN)
    have ab := below_setRow (ab.alloc ab.size (.cells (bs (zs 224)) 128)) ab.size (bs PN)
    clear h2
    generalize (w2.alloc (.cells (bs (zs 224)) 128)).setRow w2.heap.size (bs PN) = w3 at r0 r1 q2 ab ⊢
    generalize w2.heap.size = g2 at q2 l2 ⊢
    have cc := str_row q2 224 224 HPL.out
    go_upto_region 5 with (go_at_call 62; refine (HG1.out _).mono ?_; clear HG1; rintro ex w5 ⟨rfl, rfl⟩)
    go_upto_region 6 with (go_at_call 62; refine (HG2.out _).mono ?_; clear HG2; rintro ex w6 ⟨rfl, rfl⟩)
    clear cc
    by_cases hz : Z ≤ 214
    · have hz' : ¬ (Z : Int) > 214 := by omega
      have hz'' : ¬ (214 : Int) < Z := by omega
      obtain ⟨HSL, HST⟩ := slice_ten g2 Z PN HPL.out hz (10 + (Z : Int)) rfl
      have hst2 := HST _ _ q2
      have HX : Hid (strOfNums ((PN.drop 10).take Z) = U) := by
        show _ = _
        rw [← HU.out]
        unfold uL
        rw [HPN.out, HZ'.out, Int.toNat_natCast]
      rw [HX.out] at hst2
      have x10 : IntKind.u64.wrap (10 + (Z : Int)) = 10 + (Z : Int) := by rw [IntKind.wrap_u64]; omega
      obtain ⟨T10, HT10⟩ : ∃ x : Int, Hid (10 + (Z : Int) = x) := ⟨_, rfl⟩
      rw [HT10.out] at HSL
      have x10' : 10 + (Z : Int) = T10 := HT10.out
      rw [HT10.out] at x10
      have l3 := q2.lt
      have qc : Row (w6.alloc (.cells #[.int .u32 0, .int .u32 0, .int .u64 0, .string ByteArray.empty] 65)) w6.heap.size #[.int .u32 0, .int .u32 0, .int .u64 0, .string ByteArray.empty] 65 := Row.new _ _ _
      clear HST HB hTz
      go_upto_region 9 with (first
        | (refine build_parts rfl 65 #[(0, .tmp 40), (1, .tmp 43), (2, .tmp 44), (3, .tmp 48)] rfl [(0, .int .u32 E), (1, .int .u32 N), (2, .int .u64 O), (3, .string U)] rfl _ (built25four E N O U) ?_)
        | (refine store_cells rfl 65 (.tmp 11) (.tmp 49) rfl w6.heap.size #[.int .u32 E, .int .u32 N, .int .u64 O, .string U] rfl rfl 65 _ qc 4 size65 rfl rfl (by simp [Value.oneCell']) ?_))
      have r0 := (r0.alloc (.cells #[.int .u32 0, .int .u32 0, .int .u64 0, .string ByteArray.empty] 65)).other (g := w6.heap.size) (by omega) #[.int .u32 E, .int .u32 N, .int .u64 O, .string U]
      have r1 := (r1.alloc (.cells #[.int .u32 0, .int .u32 0, .int .u64 0, .string ByteArray.empty] 65)).other (g := w6.heap.size) (by omega) #[.int .u32 E, .int .u32 N, .int .u64 O, .string U]
      have qc := qc.set #[.int .u32 E, .int .u32 N, .int .u64 O, .string U]
      have ab := below_setRow (ab.alloc ab.size (.cells #[.int .u32 0, .int .u32 0, .int .u64 0, .string ByteArray.empty] 65)) ab.size #[.int .u32 E, .int .u32 N, .int .u64 O, .string U]
      clear e1 e2 e1' e2' d1 d2 d1' d2' HSL hst2 x10 x10'
      generalize (w6.alloc (.cells #[.int .u32 0, .int .u32 0, .int .u64 0, .string ByteArray.empty] 65)).setRow w6.heap.size #[.int .u32 E, .int .u32 N, .int .u64 O, .string U] = w8 at r0 r1 qc ab ⊢
      generalize w6.heap.size = gc at qc l3 ⊢
      go_upto_region 10 with (first
        | (refine load_cells rfl 65 (.tmp 11) rfl gc rfl 65 #[.int .u32 E, .int .u32 N, .int .u64 O, .string U] qc 4 Try.underlying65 rfl size65 rfl ?_)
        | (go_at_call 63; refine (HPK.out _).mono ?_; clear HPK; rintro ex w9 ⟨rfl, h9⟩
           have q9 : Row (w9.alloc (.cells (bs (zs 256)) 56)) w9.heap.size (bs (zs 256)) 56 := Row.new _ _ _)
        | (refine store_row rfl 56 (.tmp 12) (.tmp 53) rfl w9.heap.size V rfl rfl 56 _ q9 256 size56 (by rw [bs_size, zs_length]) HVL.out ?_))
      have r0 := r0.below h9 r0.lt
      have r1 := r1.below h9 r1.lt
      have qc := qc.below h9 qc.lt
      have l9 := qc.lt
      have ab := ab.trans (h9.mono ab.size)
      have r0 := (r0.alloc (.cells (bs (zs 256)) 56)).other (g := w9.heap.size) (by omega) (bs V)
      have r1 := (r1.alloc (.cells (bs (zs 256)) 56)).other (g := w9.heap.size) (by omega) (bs V)
      have qc := (qc.alloc (.cells (bs (zs 256)) 56)).other (g := w9.heap.size) (by omega) (bs V)
      have q9 := q9.set (bs V)
      have ab := below_setRow (ab.alloc ab.size (.cells (bs (zs 256)) 56)) ab.size (bs V)
      clear h9
      generalize (w9.alloc (.cells (bs (zs 256)) 56)).setRow w9.heap.size (bs V) = wa at r0 r1 qc q9 ab ⊢
      generalize w9.heap.size = g9 at q9 l9 ⊢
      generalize hk : okC U = K at HIB ⊢
      cases K
      · have HI : Hid (isB b = false) := by show _ = _; rw [HIB.out]; rfl
        clear hk HIB heq
        go_wp2_with (first
          | (refine build_none rfl 65 rfl _ built65 ?_)
          | (refine store_cells rfl 65 (.tmp 2) (.tmp 62) rfl (w.heap.size + 1) #[.int .u32 0, .int .u32 0, .int .u64 0, .string ByteArray.empty] rfl rfl 65 _ r1 4 size65 rfl rfl (by simp [Value.oneCell']) ?_))
        refine bodyPost_ret (v := .tuple #[.agg #[.int .u32 0, .int .u32 0, .int .u64 0, .string ByteArray.empty], .bool false]) ?_ rfl ⟨by rw [HRES.out, HI.out]; rfl, below_setRow ab (by omega) _⟩
        exact ret_cell2 (fn := Try.f35) rfl _ _ (w.heap.size + 1) 65 #[.int .u32 0, .int .u32 0, .int .u64 0, .string ByteArray.empty] _ _ rfl rfl (r1.set _) Try.underlying65 rfl size65
      · clear hk
        by_cases hq : V = b
        · have HI : Hid (isB b = true) := by show _ = _; rw [HIB.out, decide_eq_true hq]; rfl
          rw [decide_eq_true hq] at heq
          clear hq HIB
          go_wp2_with (first
            | (refine load_row_g rfl 56 (.tmp 12) rfl g9 rfl 56 (bs V) q9 256 5 Try.underlying56 size56 hVb ?_)
            | (refine load_row_g rfl 56 (.tmp 1) rfl w.heap.size rfl 56 (bs b) r0 256 5 Try.underlying56 size56 hbb ?_)
            | (refine load_cells rfl 65 (.tmp 11) rfl gc rfl 65 #[.int .u32 E, .int .u32 N, .int .u64 O, .string U] qc 4 Try.underlying65 rfl size65 rfl ?_)
            | (refine store_cells rfl 65 (.tmp 2) (.tmp 63) rfl (w.heap.size + 1) #[.int .u32 E, .int .u32 N, .int .u64 O, .string U] rfl rfl 65 _ r1 4 size65 rfl rfl (by simp [Value.oneCell']) ?_))
          refine bodyPost_ret (v := .tuple #[.agg #[.int .u32 E, .int .u32 N, .int .u64 O, .string U], .bool true]) ?_ rfl ⟨by rw [HRES.out, HI.out]; rfl, below_setRow ab (by omega) _⟩
          exact ret_cell2 (fn := Try.f35) rfl _ _ (w.heap.size + 1) 65 #[.int .u32 E, .int .u32 N, .int .u64 O, .string U] _ _ rfl rfl (r1.set _) Try.underlying65 rfl size65
        · have HI : Hid (isB b = false) := by show _ = _; rw [HIB.out, decide_eq_false hq]; rfl
          rw [decide_eq_false hq] at heq
          clear hq HIB
          go_wp2_with (first
            | (refine load_row_g rfl 56 (.tmp 12) rfl g9 rfl 56 (bs V) q9 256 5 Try.underlying56 size56 hVb ?_)
            | (refine load_row_g rfl 56 (.tmp 1) rfl w.heap.size rfl 56 (bs b) r0 256 5 Try.underlying56 size56 hbb ?_)
            | (refine build_none rfl 65 rfl _ built65 ?_)
            | (refine store_cells rfl 65 (.tmp 2) (.tmp 62) rfl (w.heap.size + 1) #[.int .u32 0, .int .u32 0, .int .u64 0, .string ByteArray.empty] rfl rfl 65 _ r1 4 size65 rfl rfl (by simp [Value.oneCell']) ?_))
          refine bodyPost_ret (v := .tuple #[.agg #[.int .u32 0, .int .u32 0, .int .u64 0, .string ByteArray.empty], .bool false]) ?_ rfl ⟨by rw [HRES.out, HI.out]; rfl, below_setRow ab (by omega) _⟩
          exact ret_cell2 (fn := Try.f35) rfl _ _ (w.heap.size + 1) 65 #[.int .u32 0, .int .u32 0, .int .u64 0, .string ByteArray.empty] _ _ rfl rfl (r1.set _) Try.underlying65 rfl size65
    · have hz' : (Z : Int) > 214 := by omega
      have HI : Hid (isB b = false) := HLG.out (by omega)
      clear hz HB
      go_wp2_with (first
        | (refine build_none rfl 65 rfl _ built65 ?_)
        | (refine store_cells rfl 65 (.tmp 2) (.tmp 37) rfl (w.heap.size + 1) #[.int .u32 0, .int .u32 0, .int .u64 0, .string ByteArray.empty] rfl rfl 65 _ r1 4 size65 rfl rfl (by simp [Value.oneCell']) ?_))
      refine bodyPost_ret (v := .tuple #[.agg #[.int .u32 0, .int .u32 0, .int .u64 0, .string ByteArray.empty], .bool false]) ?_ rfl ⟨by rw [HRES.out, HI.out]; rfl, below_setRow ab (by omega) _⟩
      exact ret_cell2 (fn := Try.f35) rfl _ _ (w.heap.size + 1) 65 #[.int .u32 0, .int .u32 0, .int .u64 0, .string ByteArray.empty] _ _ rfl rfl (r1.set _) Try.underlying65 rfl size65
  · rw [opened_not b hwh] at HOP
    have HI : Hid (isB b = false) := by
      show _ = _
      unfold isB
      cases h : whole b
      · rfl
      · exact absurd h hwh
    clear hwh
    go_upto_region 2 with (first
      | (refine load_row rfl 56 (.tmp 1) rfl w.heap.size rfl 56 (bs b) r0 256 5 Try.underlying56 size56 hbb ?_)
      | (go_at_call 61; refine (HOP.out _).mono ?_; clear HOP; rintro ex w2 ⟨rfl, h2⟩
         have q2 : Row (w2.alloc (.cells (bs (zs 224)) 128)) w2.heap.size (bs (zs 224)) 128 := Row.new _ _ _)
      | (refine store_row rfl 128 (.tmp 5) (.tmp 18) rfl w2.heap.size (zs 224) rfl rfl 128 _ q2 224 size128 (by rw [bs_size, zs_length]) (zs_length _) ?_))
    have r1 := r1.below h2 r1.lt
    have l2 := r1.lt
    have ab := ab.trans (h2.mono ab.size)
    have r1 := (r1.alloc (.cells (bs (zs 224)) 128)).other (g := w2.heap.size) (by omega) (bs (zs 224))
    have ab := below_setRow (ab.alloc ab.size (.cells (bs (zs 224)) 128)) ab.size (bs (zs 224))
    clear h2
    generalize (w2.alloc (.cells (bs (zs 224)) 128)).setRow w2.heap.size (bs (zs 224)) = w3 at r1 ab ⊢
    generalize w2.heap.size = g2 at l2 ⊢
    go_wp2_with (first
      | (refine build_none rfl 65 rfl _ built65 ?_)
      | (refine store_cells rfl 65 (.tmp 2) (.tmp 22) rfl (w.heap.size + 1) #[.int .u32 0, .int .u32 0, .int .u64 0, .string ByteArray.empty] rfl rfl 65 _ r1 4 size65 rfl rfl (by simp [Value.oneCell']) ?_))
    refine bodyPost_ret (v := .tuple #[.agg #[.int .u32 0, .int .u32 0, .int .u64 0, .string ByteArray.empty], .bool false]) ?_ rfl ⟨by unfold gotC; rw [HI.out]; rfl, below_setRow ab (by omega) _⟩
    exact ret_cell2 (fn := Try.f35) rfl _ _ (w.heap.size + 1) 65 #[.int .u32 0, .int .u32 0, .int .u64 0, .string ByteArray.empty] _ _ rfl rfl (r1.set _) Try.underlying65 rfl size65
end Go.Proofs.Ytgnedbagelhcbaa
