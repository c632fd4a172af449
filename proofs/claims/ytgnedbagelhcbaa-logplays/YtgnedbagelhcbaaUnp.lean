/-
  Proved here: ring.Unpack: the chunk of which a block is the block, or that there is none.
-/
import Derived.Test.YtgnedbagelhcbaaPack
import Derived.Test.YtgnedbagelhcbaaSPlain
namespace Go.Proofs.Ytgnedbagelhcbaa
open Go.ChangeShapes Go.WideShapes Go.ChangeAt Go.RowKit
set_option linter.unusedVariables false
set_option linter.unusedSimpArgs false
set_option maxRecDepth 20000
theorem extract_tx (l : List Int) (a b : Nat) : (strOfNums l).extract a b = strOfNums ((l.take b).drop a) := by
  have e : ((strOfNums l).extract a b).data.toList = (strOfNums ((l.take b).drop a)).data.toList := by
    rw [strOfNums_data]
    cases h : strOfNums l with | mk d =>
    rw [ByteArray.extract_mk]
    have hd : d.toList = l.map fun n => UInt8.ofNat n.toNat := by rw [← strOfNums_data, h]
    simp [hd, List.map_drop, List.map_take, List.extract_eq_take_drop, List.drop_take]
  cases h1 : (strOfNums l).extract a b with | mk x =>
  cases h2 : strOfNums ((l.take b).drop a) with | mk y =>
  rw [h1, h2] at e
  have : x = y := by rw [← Array.toArray_toList (xs := x), ← Array.toArray_toList (xs := y)]; exact congrArg _ e
  rw [this]
theorem cut_isG (l : List Int) (a n : Nat) : (l.take (min (a + n) l.length)).drop (min a l.length) = (l.drop a).take n := by
  by_cases h : a ≤ l.length
  · rw [Nat.min_eq_left h]
    by_cases h2 : a + n ≤ l.length
    · rw [Nat.min_eq_left h2, List.drop_take]; congr 1; omega
    · rw [Nat.min_eq_right (by omega), List.take_length, List.take_of_length_le (by simp; omega)]
  · rw [Nat.min_eq_right (by omega), Nat.min_eq_right (by omega), List.take_length, List.drop_length, List.drop_of_length_le (by omega), List.take_nil]
theorem zero65 (w : World) : (zeroValue 65).run Try.prog w = .ok (.agg #[.int .u32 0, .int .u32 0, .int .u64 0, .string ByteArray.empty]) w := (zero_of_info (P := Try.prog) (t := 65) (v := .agg #[.int .u32 0, .int .u32 0, .int .u64 0, .string ByteArray.empty]) (n := 4) (by kernel_rfl)).1 w
theorem size65 : (Try.prog.info? 65).map (·.size) = some 4 := by kernel_rfl
theorem built65 : (Try.prog.built 65 []) = some #[.int .u32 0, .int .u32 0, .int .u64 0, .string ByteArray.empty] := by kernel_rfl
def whole (b : List Int) : Bool := decide (Sl.stampAt b 1 = Sl.stampAt b 0 ∧ Sl.stampAt b 2 = Sl.stampAt b 0 ∧ Sl.stampAt b 3 = Sl.stampAt b 0)
def uE (b : List Int) : Int := Sl.stampAt b 0 / 4294967296
def uN (b : List Int) : Int := Sl.stampAt b 0 % 4294967296
def uO (b : List Int) : Int := getN (strOfNums (Sl.payN b 4)) 0 8
def uZ (b : List Int) : Int := getN (strOfNums (Sl.payN b 4)) 8 2
def uL (b : List Int) : List Int := ((Sl.payN b 4).drop 10).take (uZ b).toNat
def isB (b : List Int) : Bool := whole b && okC (strOfNums (uL b)) && decide (packV (uE b) (uN b) (uO b) (strOfNums (uL b)) = b)
def chk (e n o : Int) (s : ByteArray) : Array Value := #[.int .u32 e, .int .u32 n, .int .u64 o, .string s]
def gotC (b : List Int) : Array Value := if isB b then chk (uE b) (uN b) (uO b) (strOfNums (uL b)) else chk 0 0 0 ByteArray.empty
theorem built25two (e n : Int) : (Try.prog.built 65 [(0, .int .u32 e), (1, .int .u32 n)]) = some #[.int .u32 e, .int .u32 n, .int .u64 0, .string ByteArray.empty] := by kernel_rfl
theorem build_parts {P : Program} {ops : Array Oper} {rest : List Oper} {o : Oper} {a : Act} {w : World} {Q : Exit → Act → World → Prop} (hg : o.guard = none) (t : TypeId) (parts : Array (Nat × Operand)) (ho : o.op = .build t parts)
    (vs : List (Nat × Value)) (hv : parts.toList.map (fun x => (x.1, a.eval x.2)) = vs) (cs : Array Value) (hb : P.built t vs = some cs) (h : wpList P ops Q rest (a.put o.dst (.agg cs)) w) : wpList P ops Q (o :: rest) a w := by
  have e : (parts.map fun (i, x) => (i, a.eval x)).toList = vs := by rw [← hv, Array.toList_map]
  exact wpList_build hg t parts ho (by rw [e, hb]; rfl) (by rw [e, hb]; exact h)
theorem opened_whole (b : List Int) (h : whole b = true) : Sl.opened b = .tuple #[.int .u64 (Sl.stampAt b 0), .agg (bs (Sl.payN b 4)), .bool true] := by
  unfold whole at h; unfold Sl.opened; rw [if_pos (of_decide_eq_true h)]
theorem opened_not (b : List Int) (h : ¬ whole b = true) : Sl.opened b = .tuple #[.int .u64 0, .agg (bs (zs 224)), .bool false] := by
  unfold whole at h; unfold Sl.opened; rw [if_neg (fun q => h (decide_eq_true q))]
theorem stamp_fits (b : List Int) (hb : b.length = 256) (hy : Bytes b) : 0 ≤ Sl.stampAt b 0 ∧ Sl.stampAt b 0 ≤ 18446744073709551615 :=
  Sl.num_top _ (Sl.atOff_fits (Sl.cut_bytes b 0 hy) 56) 8 (by omega)
theorem uL_length (b : List Int) : (uL b).length ≤ 214 := by
  unfold uL
  rw [List.length_take, List.length_drop, Sl.payN_length]; omega
set_option maxRecDepth 20000 in
set_option maxHeartbeats 4000000 in
theorem unpack_any (b : List Int) (w : World) (hb : b.length = 256) (hy : Bytes b) :
    Calls Try.prog 60 #[.agg (bs b)] w fun ex w' => ex = .returned (.tuple #[.agg (gotC b), .bool (isB b)]) ∧ Below w.heap.size w w' := by
  have hz1 := zero56
  have hz2 := zero148
  have hz3 := zero65
  have hbb : (bs b).size = 256 := by rw [bs_size, hb]
  have HOP : Hid _ := fun w => Sl.open_any b hb hy w
  have r0 : Row ((w.alloc (.cells (bs b) 56)).alloc (.cells #[.int .u32 0, .int .u32 0, .int .u64 0, .string ByteArray.empty] 65)) w.heap.size (bs b) 56 := (Row.new _ _ _).alloc _
  have r1 : Row ((w.alloc (.cells (bs b) 56)).alloc (.cells #[.int .u32 0, .int .u32 0, .int .u64 0, .string ByteArray.empty] 65)) (w.heap.size + 1) #[.int .u32 0, .int .u32 0, .int .u64 0, .string ByteArray.empty] 65 := by have := Row.new (w.alloc (.cells (bs b) 56)) #[.int .u32 0, .int .u32 0, .int .u64 0, .string ByteArray.empty] 65; simpa using this
  have ab : Below w.heap.size w ((w.alloc (.cells (bs b) 56)).alloc (.cells #[.int .u32 0, .int .u32 0, .int .u64 0, .string ByteArray.empty] 65)) := ((Below.refl _ _).alloc (Nat.le_refl _) _).alloc (by simp) _
  go_enter Try.func60, Try.ntmps60
  go_upto_region 1 with fail
  generalize (w.alloc (.cells (bs b) 56)).alloc (.cells #[.int .u32 0, .int .u32 0, .int .u64 0, .string ByteArray.empty] 65) = w1 at r0 r1 ab ⊢
  by_cases hwh : whole b = true
  · rw [opened_whole b hwh] at HOP
    have hst := stamp_fits b hb hy
    have hPl := Sl.payN_length b 4
    have HUL : Hid _ := uL_length b
    have hUl2 : (strOfNums (uL b)).size ≤ 214 := by rw [strOfNums_size]; exact uL_length b
    obtain ⟨PN, HPN⟩ : ∃ x, Hid (Sl.payN b 4 = x) := ⟨_, rfl⟩
    obtain ⟨S, HS⟩ : ∃ x, Hid (Sl.stampAt b 0 = x) := ⟨_, rfl⟩
    rw [HPN.out] at HOP hPl
    rw [HS.out] at HOP hst
    have hTz : (strOfNums PN).size = 224 := by rw [strOfNums_size, hPl]
    have HG1 : Hid _ := get_all (strOfNums PN) 0 8 (by rw [hTz]; unfold maxLen; omega) (by decide) (by decide)
    have HG2 : Hid _ := get_all (strOfNums PN) 8 2 (by rw [hTz]; unfold maxLen; omega) (by decide) (by decide)
    have fz := getN_fits (strOfNums PN) 8 2
    have fo := getN_fits (strOfNums PN) 0 8
    have HO' : Hid (uO b = getN (strOfNums PN) 0 8) := by show _ = _; unfold uO; rw [HPN.out]
    have HZ' : Hid (uZ b = getN (strOfNums PN) 8 2) := by show _ = _; unfold uZ; rw [HPN.out]
    obtain ⟨O, HO⟩ : ∃ x, Hid (getN (strOfNums PN) 0 8 = x) := ⟨_, rfl⟩
    obtain ⟨Z, HZ⟩ : ∃ x, Hid ((getN (strOfNums PN) 8 2).toNat = x) := ⟨_, rfl⟩
    have hZ : getN (strOfNums PN) 8 2 = (Z : Int) := by rw [← HZ.out]; omega
    rw [HO.out] at HG1 fo HO'
    rw [hZ] at HG2 HZ'
    have hZ2 : Z ≤ 65535 := by omega
    have hO2 : 0 ≤ O ∧ O ≤ 18446744073709551615 := ⟨fo.1, by have := fo.2; omega⟩
    have HB : Hid (∀ t : Nat, t = min (10 + Z) 224 → (strOfNums PN).extract 10 t = strOfNums (uL b)) := fun t ht => by
      rw [ht, extract_tx]
      have := cut_isG PN 10 Z
      rw [hPl] at this
      rw [show min 10 224 = 10 by omega] at this
      rw [this]
      unfold uL
      rw [HPN.out, HZ'.out, Int.toNat_natCast]
    obtain ⟨E, HE⟩ : ∃ x, Hid (S / 4294967296 = x) := ⟨_, rfl⟩
    obtain ⟨N, HN⟩ : ∃ x, Hid (S % 4294967296 = x) := ⟨_, rfl⟩
    have hE : 0 ≤ E ∧ E ≤ 4294967295 := by rw [← HE.out]; omega
    have hN : 0 ≤ N ∧ N ≤ 4294967295 := by rw [← HN.out]; omega
    have HUE : Hid (uE b = E) := by show _ = _; unfold uE; rw [HS.out, HE.out]
    have HUN : Hid (uN b = N) := by show _ = _; unfold uN; rw [HS.out, HN.out]
    obtain ⟨U, HU⟩ : ∃ x, Hid (strOfNums (uL b) = x) := ⟨_, rfl⟩
    rw [HU.out] at hUl2 HB
    have HPK : Hid _ := fun w => pack_any E N O U w hE hN hO2 (by unfold maxLen; omega)
    have hVl := packV_length E N O U
    have heq := equal56 (packV E N O U) b hVl hb
    have HIB : Hid (isB b = (okC U && decide (packV E N O U = b))) := by
      show _ = _
      unfold isB
      rw [hwh, HUE.out, HUN.out, HO'.out, HU.out]; rfl
    have HPE : Hid (packE U = if okC U then 0 else 1) := rfl
    obtain ⟨V, HV⟩ : ∃ x, Hid (packV E N O U = x) := ⟨_, rfl⟩
    rw [HV.out] at HPK hVl heq HIB
    have hVb : (bs V).size = 256 := by rw [bs_size, hVl]
    have HVL : Hid (V.length = 256) := hVl
    have HPL : Hid (PN.length = 224) := hPl
    have e1 : IntKind.u32.wrap (S / 4294967296) = E := by rw [IntKind.wrap_u32, HE.out]; omega
    have e2 : IntKind.u32.wrap S = N := by rw [IntKind.wrap_u32]; exact HN.out
    have e1' : S / 4294967296 % 4294967296 = E := by rw [HE.out]; omega
    have e2' : S % 4294967296 = N := HN.out
    have HRES : Hid (gotC b = if isB b then chk E N O U else chk 0 0 0 ByteArray.empty) := by
      show _ = _
      unfold gotC
      rw [HUE.out, HUN.out, HO'.out, HU.out]
    clear hb hVl hPl fz fo hZ HUL
    go_upto_region 2 with (first
      | (refine load_row rfl 56 (.tmp 1) rfl w.heap.size rfl 56 (bs b) r0 256 5 Try.underlying56 size56 hbb ?_)
      | (go_at_call 81; refine (HOP.out _).mono ?_; clear HOP; rintro ex w2 ⟨rfl, h2⟩
         have q2 : Row (w2.alloc (.cells (bs (zs 224)) 148)) w2.heap.size (bs (zs 224)) 148 := Row.new _ _ _)
      | (refine store_row rfl 148 (.tmp 5) (.tmp 17) rfl w2.heap.size PN rfl rfl 148 _ q2 224 size148 (by rw [bs_size, zs_length]) HPL.out ?_))
    have r0 := r0.below h2 r0.lt
    have r1 := r1.below h2 r1.lt
    have l2 := r1.lt
    have ab := ab.trans (h2.mono ab.size)
    have r0 := (r0.alloc (.cells (bs (zs 224)) 148)).other (g := w2.heap.size) (by omega) (bs PN)
    have r1 := (r1.alloc (.cells (bs (zs 224)) 148)).other (g := w2.heap.size) (by omega) (bs PN)
    have q2 := q2.set (bs PN)
    have ab := below_setRow (ab.alloc ab.size (.cells (bs (zs 224)) 148)) ab.size (bs PN)
    clear h2
    generalize (w2.alloc (.cells (bs (zs 224)) 148)).setRow w2.heap.size (bs PN) = w3 at r0 r1 q2 ab ⊢
    generalize w2.heap.size = g2 at q2 l2 ⊢
    have cc := str_row q2 224 224 HPL.out
    go_upto_region 5 with fail
    clear cc
    have l3 := q2.lt
    have qc : Row (w3.alloc (.cells #[.int .u32 0, .int .u32 0, .int .u64 0, .string ByteArray.empty] 65)) w3.heap.size #[.int .u32 0, .int .u32 0, .int .u64 0, .string ByteArray.empty] 65 := Row.new _ _ _
    go_upto_region 6 with (first
      | (refine build_parts rfl 65 #[(0, .tmp 26), (1, .tmp 28)] rfl [(0, .int .u32 E), (1, .int .u32 N)] rfl _ (built25two E N) ?_)
      | (refine store_cells rfl 65 (.tmp 8) (.tmp 29) rfl w3.heap.size #[.int .u32 E, .int .u32 N, .int .u64 0, .string ByteArray.empty] rfl rfl 65 _ qc 4 size65 rfl rfl (by simp [Value.oneCell']) ?_))
    have r0 := (r0.alloc (.cells #[.int .u32 0, .int .u32 0, .int .u64 0, .string ByteArray.empty] 65)).other (g := w3.heap.size) (by omega) #[.int .u32 E, .int .u32 N, .int .u64 0, .string ByteArray.empty]
    have r1 := (r1.alloc (.cells #[.int .u32 0, .int .u32 0, .int .u64 0, .string ByteArray.empty] 65)).other (g := w3.heap.size) (by omega) #[.int .u32 E, .int .u32 N, .int .u64 0, .string ByteArray.empty]
    have qc := qc.set #[.int .u32 E, .int .u32 N, .int .u64 0, .string ByteArray.empty]
    have ab := below_setRow (ab.alloc ab.size (.cells #[.int .u32 0, .int .u32 0, .int .u64 0, .string ByteArray.empty] 65)) ab.size #[.int .u32 E, .int .u32 N, .int .u64 0, .string ByteArray.empty]
    clear e1 e2 e1' e2'
    generalize (w3.alloc (.cells #[.int .u32 0, .int .u32 0, .int .u64 0, .string ByteArray.empty] 65)).setRow w3.heap.size #[.int .u32 E, .int .u32 N, .int .u64 0, .string ByteArray.empty] = w4 at r0 r1 qc ab ⊢
    generalize w3.heap.size = gc at qc l3 ⊢
    generalize strOfNums PN = TX at HG1 HG2 HB hTz ⊢
    have cc := row_at qc 2 _ rfl
    have cf := row_frozen qc 2
    go_upto_region 7 with (go_at_call 82; refine (HG1.out _).mono ?_; clear HG1; rintro ex w5 ⟨rfl, rfl⟩)
    have r0 := row_setCell_other r0 (show w.heap.size ≠ gc by omega) 2 (.int .u64 O)
    have r1 := row_setCell_other r1 (show w.heap.size + 1 ≠ gc by omega) 2 (.int .u64 O)
    have qc : Row (w5.setCell ⟨gc, 2, none⟩ (.int .u64 O)) gc #[.int .u32 E, .int .u32 N, .int .u64 O, .string ByteArray.empty] 65 := row_set qc 2 _
    have ab := ab.setCell (p := ⟨gc, 2, none⟩) (show w.heap.size ≤ gc by omega) (.int .u64 O)
    clear cc cf
    generalize w5.setCell ⟨gc, 2, none⟩ (.int .u64 O) = w6 at r0 r1 qc ab ⊢
    go_upto_region 8 with (go_at_call 82; refine (HG2.out _).mono ?_; clear HG2; rintro ex w7 ⟨rfl, rfl⟩)
    have e3 : IntKind.i64.wrap (Z : Int) = Z := by rw [IntKind.wrap_i64]; omega
    have e4 : IntKind.i64.wrap (10 + (Z : Int)) = 10 + (Z : Int) := by rw [IntKind.wrap_i64]; omega
    have cc := row_at qc 3 _ rfl
    have cf := row_frozen qc 3
    go_cut [8] from 13 to 63 (fun p8 wx => p8 = .pointer (some ⟨gc, 0, none⟩) ∧ wx = w7.setCell ⟨gc, 3, none⟩ (.string U))
    case first =>
      by_cases hz : 10 + Z ≤ 224
      · have hx : TX.extract 10 (10 + Z) = U := HB.out (10 + Z) (by omega)
        have hle : ¬ (224 : Int) < 10 + (Z : Int) := by omega
        have t10 : ((10 : Int) + Z).toNat = 10 + Z := by omega
        have b10 : (10 : Int) ≤ 10 + (Z : Int) := by omega
        have b11 : (10 : Int) + (Z : Int) ≤ 224 := by omega
        go_wp2
        go_meet
        exact ⟨rfl, rfl⟩
      · have hx : TX.extract 10 224 = U := HB.out 224 (by omega)
        have hle : (224 : Int) < 10 + (Z : Int) := by omega
        go_wp2
        go_meet
        exact ⟨rfl, rfl⟩
    case rest =>
      obtain ⟨rfl, rfl⟩ := hcut
      have r0 := row_setCell_other r0 (show w.heap.size ≠ gc by omega) 3 (.string U)
      have r1 := row_setCell_other r1 (show w.heap.size + 1 ≠ gc by omega) 3 (.string U)
      have qc : Row (w7.setCell ⟨gc, 3, none⟩ (.string U)) gc #[.int .u32 E, .int .u32 N, .int .u64 O, .string U] 65 := row_set qc 3 _
      have ab := ab.setCell (p := ⟨gc, 3, none⟩) (show w.heap.size ≤ gc by omega) (.string U)
      clear cc cf e3 e4 HB hTz q2
      generalize w7.setCell ⟨gc, 3, none⟩ (.string U) = w8 at r0 r1 qc ab ⊢
      go_upto_region 10 with (first
        | (refine load_cells rfl 65 (.tmp 8) rfl gc rfl 65 #[.int .u32 E, .int .u32 N, .int .u64 O, .string U] qc 4 Try.underlying65 rfl size65 rfl ?_)
        | (go_at_call 73; refine (HPK.out _).mono ?_; clear HPK; rintro ex w9 ⟨rfl, h9⟩
           have q9 : Row (w9.alloc (.cells (bs (zs 256)) 56)) w9.heap.size (bs (zs 256)) 56 := Row.new _ _ _)
        | (refine store_row rfl 56 (.tmp 11) (.tmp 53) rfl w9.heap.size V rfl rfl 56 _ q9 256 size56 (by rw [bs_size, zs_length]) HVL.out ?_))
      have r0 := r0.below h9 r0.lt
      have r1 := r1.below h9 r1.lt
      have qc := qc.below h9 qc.lt
      have l9 := qc.lt
      have ab := ab.trans (h9.mono ab.size)
      have r0 := (r0.alloc (.cells (bs (zs 256)) 56)).other (g := w9.heap.size) (by omega) (bs V)
      have r1 := (r1.alloc (.cells (bs (zs 256)) 56)).other (g := w9.heap.size) (by omega) (bs V)
      have qc := (qc.alloc (.cells (bs (zs 256)) 56)).other (g := w9.heap.size) (by omega) (bs V)
      have q9 := q9.set (bs V)
      have ab := below_setRow (ab.alloc ab.size (.cells (bs (zs 256)) 56)) ab.size (bs V)
      clear h9
      generalize (w9.alloc (.cells (bs (zs 256)) 56)).setRow w9.heap.size (bs V) = wa at r0 r1 qc q9 ab ⊢
      generalize w9.heap.size = g9 at q9 l9 ⊢
      generalize packE U = PE at HPE ⊢
      cases hk : okC U
      · rw [hk] at HPE HIB
        obtain rfl : PE = 1 := HPE.out
        have HI : Hid (isB b = false) := by show _ = _; rw [HIB.out]; rfl
        clear hk HIB heq
        go_wp2_with (first
          | (refine build_none rfl 65 rfl _ built65 ?_)
          | (refine store_cells rfl 65 (.tmp 2) (.tmp 62) rfl (w.heap.size + 1) #[.int .u32 0, .int .u32 0, .int .u64 0, .string ByteArray.empty] rfl rfl 65 _ r1 4 size65 rfl rfl (by simp [Value.oneCell']) ?_))
        refine bodyPost_ret (v := .tuple #[.agg #[.int .u32 0, .int .u32 0, .int .u64 0, .string ByteArray.empty], .bool false]) ?_ rfl ⟨by rw [HRES.out, HI.out]; rfl, below_setRow ab (by omega) _⟩
        exact ret_cell2 (fn := Try.f60) rfl _ _ (w.heap.size + 1) 65 #[.int .u32 0, .int .u32 0, .int .u64 0, .string ByteArray.empty] _ _ rfl rfl (r1.set _) Try.underlying65 rfl size65
      · rw [hk] at HPE HIB
        obtain rfl : PE = 0 := HPE.out
        clear hk
        by_cases hq : V = b
        · have HI : Hid (isB b = true) := by show _ = _; rw [HIB.out, decide_eq_true hq]; rfl
          rw [decide_eq_true hq] at heq
          clear hq HIB
          go_wp2_with (first
            | (refine load_row_g rfl 56 (.tmp 11) rfl g9 rfl 56 (bs V) q9 256 5 Try.underlying56 size56 hVb ?_)
            | (refine load_row_g rfl 56 (.tmp 1) rfl w.heap.size rfl 56 (bs b) r0 256 5 Try.underlying56 size56 hbb ?_)
            | (refine load_cells rfl 65 (.tmp 8) rfl gc rfl 65 #[.int .u32 E, .int .u32 N, .int .u64 O, .string U] qc 4 Try.underlying65 rfl size65 rfl ?_)
            | (refine store_cells rfl 65 (.tmp 2) (.tmp 63) rfl (w.heap.size + 1) #[.int .u32 E, .int .u32 N, .int .u64 O, .string U] rfl rfl 65 _ r1 4 size65 rfl rfl (by simp [Value.oneCell']) ?_))
          refine bodyPost_ret (v := .tuple #[.agg #[.int .u32 E, .int .u32 N, .int .u64 O, .string U], .bool true]) ?_ rfl ⟨by rw [HRES.out, HI.out]; rfl, below_setRow ab (by omega) _⟩
          exact ret_cell2 (fn := Try.f60) rfl _ _ (w.heap.size + 1) 65 #[.int .u32 E, .int .u32 N, .int .u64 O, .string U] _ _ rfl rfl (r1.set _) Try.underlying65 rfl size65
        · have HI : Hid (isB b = false) := by show _ = _; rw [HIB.out, decide_eq_false hq]; rfl
          rw [decide_eq_false hq] at heq
          clear hq HIB
          go_wp2_with (first
            | (refine load_row_g rfl 56 (.tmp 11) rfl g9 rfl 56 (bs V) q9 256 5 Try.underlying56 size56 hVb ?_)
            | (refine load_row_g rfl 56 (.tmp 1) rfl w.heap.size rfl 56 (bs b) r0 256 5 Try.underlying56 size56 hbb ?_)
            | (refine build_none rfl 65 rfl _ built65 ?_)
            | (refine store_cells rfl 65 (.tmp 2) (.tmp 62) rfl (w.heap.size + 1) #[.int .u32 0, .int .u32 0, .int .u64 0, .string ByteArray.empty] rfl rfl 65 _ r1 4 size65 rfl rfl (by simp [Value.oneCell']) ?_))
          refine bodyPost_ret (v := .tuple #[.agg #[.int .u32 0, .int .u32 0, .int .u64 0, .string ByteArray.empty], .bool false]) ?_ rfl ⟨by rw [HRES.out, HI.out]; rfl, below_setRow ab (by omega) _⟩
          exact ret_cell2 (fn := Try.f60) rfl _ _ (w.heap.size + 1) 65 #[.int .u32 0, .int .u32 0, .int .u64 0, .string ByteArray.empty] _ _ rfl rfl (r1.set _) Try.underlying65 rfl size65
  · rw [opened_not b hwh] at HOP
    have HI : Hid (isB b = false) := by
      show _ = _
      unfold isB
      cases h : whole b
      · rfl
      · exact absurd h hwh
    clear hwh
    go_upto_region 2 with (first
      | (refine load_row rfl 56 (.tmp 1) rfl w.heap.size rfl 56 (bs b) r0 256 5 Try.underlying56 size56 hbb ?_)
      | (go_at_call 81; refine (HOP.out _).mono ?_; clear HOP; rintro ex w2 ⟨rfl, h2⟩
         have q2 : Row (w2.alloc (.cells (bs (zs 224)) 148)) w2.heap.size (bs (zs 224)) 148 := Row.new _ _ _)
      | (refine store_row rfl 148 (.tmp 5) (.tmp 17) rfl w2.heap.size (zs 224) rfl rfl 148 _ q2 224 size148 (by rw [bs_size, zs_length]) (zs_length _) ?_))
    have r1 := r1.below h2 r1.lt
    have l2 := r1.lt
    have ab := ab.trans (h2.mono ab.size)
    have r1 := (r1.alloc (.cells (bs (zs 224)) 148)).other (g := w2.heap.size) (by omega) (bs (zs 224))
    have ab := below_setRow (ab.alloc ab.size (.cells (bs (zs 224)) 148)) ab.size (bs (zs 224))
    clear h2
    generalize (w2.alloc (.cells (bs (zs 224)) 148)).setRow w2.heap.size (bs (zs 224)) = w3 at r1 ab ⊢
    generalize w2.heap.size = g2 at l2 ⊢
    go_wp2_with (first
      | (refine build_none rfl 65 rfl _ built65 ?_)
      | (refine store_cells rfl 65 (.tmp 2) (.tmp 21) rfl (w.heap.size + 1) #[.int .u32 0, .int .u32 0, .int .u64 0, .string ByteArray.empty] rfl rfl 65 _ r1 4 size65 rfl rfl (by simp [Value.oneCell']) ?_))
    refine bodyPost_ret (v := .tuple #[.agg #[.int .u32 0, .int .u32 0, .int .u64 0, .string ByteArray.empty], .bool false]) ?_ rfl ⟨by unfold gotC; rw [HI.out]; rfl, below_setRow ab (by omega) _⟩
    exact ret_cell2 (fn := Try.f60) rfl _ _ (w.heap.size + 1) 65 #[.int .u32 0, .int .u32 0, .int .u64 0, .string ByteArray.empty] _ _ rfl rfl (r1.set _) Try.underlying65 rfl size65
end Go.Proofs.Ytgnedbagelhcbaa
