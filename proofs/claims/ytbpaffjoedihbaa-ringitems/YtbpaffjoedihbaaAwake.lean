/-
  Proved here: what was packed is told again; the statements' fixed run (awake).
-/
import Derived.Test.YtbpaffjoedihbaaUnp
namespace Go.Proofs.Ytbpaffjoedihbaa
open Go.ChangeShapes Go.WideShapes Go.ChangeAt Go.RowKit
set_option linter.unusedVariables false
set_option linter.unusedSimpArgs false

theorem pack_off (o : Int) (l : List Int) (i : Nat) (hi : i < 8) : (packT o l).getD i 0 = o / 2 ^ (8 * i) % 256 := by
  unfold packT
  rw [List.append_assoc, getD_left (by rw [low_length]; exact hi), low_getD _ _ _ hi]
theorem pack_len (o : Int) (l : List Int) (i : Nat) (hi : i < 2) : (packT o l).getD (8 + i) 0 = (l.length : Int) / 2 ^ (8 * i) % 256 := by
  unfold packT
  rw [List.append_assoc, part_at _ _ _ 8 (low_length _ _) i (by rw [low_length]; exact hi), low_getD _ _ _ hi]
theorem pack_txt (o : Int) (l : List Int) (i : Nat) : (packT o l).getD (10 + i) 0 = l.getD i 0 := by
  unfold packT
  rw [getD_right (by simp [low_length])]
  congr 1
  simp [low_length]
/-- What was packed is told again. -/
theorem packed (e n o : Int) (l : List Int) (he : 0 ≤ e ∧ e ≤ 4294967295) (hn : 0 ≤ n ∧ n ≤ 4294967295) (ho : 0 ≤ o ∧ o ≤ 18446744073709551615) (hl : 1 ≤ l.length ∧ l.length ≤ 214) (hb : Bytes l) :
    whole (packB e n o l) = true ∧ uE (packB e n o l) = e ∧ uN (packB e n o l) = n ∧ uO (packB e n o l) = o ∧ uL (packB e n o l) = l := by
  have hpl : (padT (packT o l)).length = 224 := padT_length _ (by rw [packT_length]; omega)
  have hpb := padT_bytes _ (packT_bytes o l hb)
  have hv : 0 ≤ e * 4294967296 + n ∧ e * 4294967296 + n ≤ 18446744073709551615 := by omega
  have hs := fun i hi => Sl.stamp_sealed (e * 4294967296 + n) (padT (packT o l)) hv.1 hv.2 i hi
  have hp := Sl.pay_sealed (e * 4294967296 + n) (padT (packT o l)) hpl
  have s0 : Sl.stampAt (packB e n o l) 0 = e * 4294967296 + n := hs 0 (by omega)
  have p0 : Sl.payN (packB e n o l) 4 = padT (packT o l) := hp
  have hat : ∀ j, (padT (packT o l)).getD j 0 = (packT o l).getD j 0 := padT_at _ (by rw [packT_length]; omega)
  have z : uZ (packB e n o l) = l.length := by
    unfold uZ; rw [p0]
    exact getN_tx hpb _ (by omega) 8 2 (by omega) (by omega) fun i hi => by rw [hat, pack_len _ _ _ hi]
  refine ⟨?_, ?_, ?_, ?_, ?_⟩
  · unfold whole
    apply decide_eq_true
    exact ⟨(hs 1 (by omega)).trans (hs 0 (by omega)).symm, (hs 2 (by omega)).trans (hs 0 (by omega)).symm, (hs 3 (by omega)).trans (hs 0 (by omega)).symm⟩
  · unfold uE; rw [s0]; omega
  · unfold uN; rw [s0]; omega
  · unfold uO; rw [p0]
    exact getN_tx hpb _ ho.1 0 8 (by omega) (by omega) fun i hi => by rw [hat, Nat.zero_add, pack_off _ _ _ hi]
  · unfold uL; rw [p0, z, Int.toNat_natCast]
    apply list_ext _ _ l.length (by simp; omega) rfl
    intro i hi
    have := hat (10 + i)
    rw [pack_txt] at this
    rw [← this]
    simp only [List.getD]
    rw [List.getElem?_take, if_pos hi, List.getElem?_drop]
theorem okC_tx (l : List Int) (hl : 1 ≤ l.length ∧ l.length ≤ 214) : okC (strOfNums l) = true := by
  unfold okC; rw [strOfNums_size]; exact decide_eq_true hl
theorem packed_is (e n o : Int) (l : List Int) (he : 0 ≤ e ∧ e ≤ 4294967295) (hn : 0 ≤ n ∧ n ≤ 4294967295) (ho : 0 ≤ o ∧ o ≤ 18446744073709551615) (hl : 1 ≤ l.length ∧ l.length ≤ 214) (hb : Bytes l) :
    isB (packB e n o l) = true ∧ gotC (packB e n o l) = chk e n o (strOfNums l) := by
  obtain ⟨h1, h2, h3, h4, h5⟩ := packed e n o l he hn ho hl hb
  have h : isB (packB e n o l) = true := by
    unfold isB packV
    rw [h1, h2, h3, h4, h5, okC_tx l hl, if_pos rfl, nums_tx hb]
    simp
  refine ⟨h, ?_⟩
  unfold gotC
  rw [h, if_pos rfl, h2, h3, h4, h5]
theorem packB_bytes (e n o : Int) (l : List Int) (hb : Bytes l) : Bytes (packB e n o l) := Sl.sealN_bytes _ _ (padT_bytes _ (packT_bytes _ _ hb))
theorem bytes_inj {a b : ByteArray} (h : a.toList = b.toList) : a = b := by
  rw [ByteArray.toList_eq, ByteArray.toList_eq] at h
  obtain ⟨⟨x⟩⟩ := a
  obtain ⟨⟨y⟩⟩ := b
  have h' : x = y := h
  rw [h']
theorem equal25 (e n o e' n' o' : Int) (s s' : ByteArray) (w : World) : (Op.equalIn 10000 25 (.agg #[.int .u32 e, .int .u32 n, .int .u64 o, .string s]) (.agg #[.int .u32 e', .int .u32 n', .int .u64 o', .string s'])).run Try.prog w = .ok (decide (e = e') && decide (n = n') && decide (o = o') && decide (s = s')) w := by
  go_simp
  by_cases h1 : e = e'
  · by_cases h2 : n = n'
    · by_cases h3 : o = o'
      · by_cases h4 : s = s'
        · subst h1 h2 h3 h4; simp
        · have h7 : ¬ s.toList = s'.toList := fun q => h4 (bytes_inj q)
          simp [h1, h2, h3, h4, h7]
      · simp [h1, h2, h3]
    · simp [h1, h2]
  · simp [h1]
theorem build_parts_g {P : Program} {ops : Array Oper} {rest : List Oper} {o : Oper} {a : Act} {w : World} {Q : Exit → Act → World → Prop} (hw : Region.wanted o (yielded ops a.tmps) = true) (t : TypeId) (parts : Array (Nat × Operand)) (ho : o.op = .build t parts)
    (vs : List (Nat × Value)) (hv : parts.toList.map (fun x => (x.1, a.eval x.2)) = vs) (cs : Array Value) (hb : P.built t vs = some cs) (h : wpList P ops Q rest (a.put o.dst (.agg cs)) w) : wpList P ops Q (o :: rest) a w := by
  have e : (parts.map fun (i, x) => (i, a.eval x)).toList = vs := by rw [← hv, Array.toList_map]
  exact BigFrame.wpList_want hw fun _ hK => wp_build t parts ho (by rw [e, hb]; rfl) (hK _ _ (by rw [e, hb]; exact h))
theorem built25four (e n o : Int) (s : ByteArray) : (Try.prog.built 25 [(0, .int .u32 e), (1, .int .u32 n), (2, .int .u64 o), (3, .string s)]) = some #[.int .u32 e, .int .u32 n, .int .u64 o, .string s] := by kernel_rfl
set_option maxRecDepth 20000 in
set_option maxHeartbeats 2000000 in
theorem awake_any (w : World) : Calls Try.prog 13 #[] w fun ex w' => ex = .returned (.bool true) ∧ Below w.heap.size w w' := by
  have hz1 := zero27
  have hz2 := zero25
  have ex : ({ data := #[120] } : ByteArray) = strOfNums [120] := rfl
  have hxb : Bytes [120] := by intro y hy; simp at hy; omega
  obtain ⟨hi, hg⟩ := packed_is 2 5 7 [120] (by decide) (by decide) (by decide) (by decide) hxb
  have HPK : Hid _ := fun w => pack_any 2 5 7 { data := #[120] } w (by decide) (by decide) (by decide) (by unfold maxLen; decide)
  have hV : packV 2 5 7 { data := #[120] } = packB 2 5 7 [120] := by
    unfold packV
    rw [ex, okC_tx [120] (by decide), if_pos rfl, nums_tx hxb]
  have hE : packE { data := #[120] } = 0 := by
    unfold packE
    rw [ex, okC_tx [120] (by decide), if_pos rfl]
  rw [hV, hE] at HPK
  have HUP : Hid _ := fun w => unpack_any (packB 2 5 7 [120]) w (packB_length _ _ _ _) (packB_bytes _ _ _ _ hxb)
  rw [hi, hg] at HUP
  have hBl := packB_length 2 5 7 [120]
  unfold chk at HUP
  rw [← ex] at HUP
  generalize packB 2 5 7 [120] = B at HPK HUP hBl
  have hBb : (bs B).size = 256 := by rw [bs_size, hBl]
  have HBL : Hid (B.length = 256) := hBl
  have heq := fun w => equal25 2 5 7 2 5 7 { data := #[120] } { data := #[120] } w
  simp only [decide_true, Bool.and_true] at heq
  clear hBl hV hE hi hg hxb ex
  obtain ⟨X, HX⟩ : ∃ X, Hid (({ data := #[120] } : ByteArray) = X) := ⟨_, rfl⟩
  have hb4 := built25four 2 5 7 { data := #[120] }
  go_enter Try.func13, Try.ntmps13
  go_upto_region 2 with (first
    | (refine build_parts rfl 25 #[(0, .const (.int .u32 2)), (1, .const (.int .u32 5)), (2, .const (.int .u64 7)), (3, .const (.string { data := #[120] }))] rfl [(0, .int .u32 2), (1, .int .u32 5), (2, .int .u64 7), (3, .string { data := #[120] })] rfl _ hb4 ?_)
    | (go_at_call 9; refine (HPK.out _).mono ?_; clear HPK; rintro ex w1 ⟨rfl, h1⟩
       have q1 : Row (w1.alloc (.cells (bs (zs 256)) 27)) w1.heap.size (bs (zs 256)) 27 := Row.new _ _ _)
    | (refine store_row rfl 27 (.tmp 1) (.tmp 8) rfl w1.heap.size B rfl rfl 27 _ q1 256 size27 (by rw [bs_size, zs_length]) HBL.out ?_))
  have q1 := q1.set (bs B)
  have ab := below_setRow (h1.alloc h1.size (.cells (bs (zs 256)) 27)) h1.size (bs B)
  clear h1
  generalize (w1.alloc (.cells (bs (zs 256)) 27)).setRow w1.heap.size (bs B) = w2 at q1 ab ⊢
  generalize w1.heap.size = g1 at q1 ⊢
  go_upto_region 3 with (first
    | (refine load_row rfl 27 (.tmp 1) rfl g1 rfl 27 (bs B) q1 256 5 Try.underlying27 size27 hBb ?_)
    | (go_at_call 11; refine (HUP.out _).mono ?_; clear HUP; rintro ex w3 ⟨rfl, h3⟩
       have q3 : Row (w3.alloc (.cells #[.int .u32 0, .int .u32 0, .int .u64 0, .string ByteArray.empty] 25)) w3.heap.size #[.int .u32 0, .int .u32 0, .int .u64 0, .string ByteArray.empty] 25 := Row.new _ _ _)
    | (refine store_cells rfl 25 (.tmp 3) (.tmp 13) rfl w3.heap.size #[.int .u32 2, .int .u32 5, .int .u64 7, .string { data := #[120] }] rfl rfl 25 _ q3 4 size25 rfl rfl (by simp [Value.oneCell']) ?_))
  have q3 := q3.set #[.int .u32 2, .int .u32 5, .int .u64 7, .string { data := #[120] }]
  have ab := ab.trans (h3.mono ab.size)
  have ab := below_setRow (ab.alloc ab.size (.cells #[.int .u32 0, .int .u32 0, .int .u64 0, .string ByteArray.empty] 25)) ab.size #[.int .u32 2, .int .u32 5, .int .u64 7, .string { data := #[120] }]
  clear h3
  generalize (w3.alloc (.cells #[.int .u32 0, .int .u32 0, .int .u64 0, .string ByteArray.empty] 25)).setRow w3.heap.size #[.int .u32 2, .int .u32 5, .int .u64 7, .string { data := #[120] }] = w4 at q3 ab ⊢
  generalize w3.heap.size = g3 at q3 ⊢
  have t1 : Hid (1 = 1) := rfl
  have t2 : Hid (2 = 2) := rfl
  go_wp2_with (first
    | (have hh := t1; clear hh t1; refine load_cells_g rfl 25 (.tmp 3) rfl g3 rfl 25 #[.int .u32 2, .int .u32 5, .int .u64 7, .string { data := #[120] }] q3 4 Try.underlying25 rfl size25 rfl ?_)
    | (have hh := t2; clear hh t2; refine build_parts_g rfl 25 #[(0, .const (.int .u32 2)), (1, .const (.int .u32 5)), (2, .const (.int .u64 7)), (3, .const (.string { data := #[120] }))] rfl [(0, .int .u32 2), (1, .int .u32 5), (2, .int .u64 7), (3, .string { data := #[120] })] rfl _ hb4 ?_))
  go_ret
  exact ⟨rfl, ab⟩
end Go.Proofs.Ytbpaffjoedihbaa
