/-
  Proved here: the document's at, from and Decode of a record.
-/
import Derived.Test.YtihjapfgllokgaaREnc
import Derived.Test.YtihjapfgllokgaaLo
namespace Go.Proofs.Ytihjapfgllokgaa
open Go.ChangeShapes Go.WideShapes Go.ChangeAt Go.RowKit
set_option linter.unusedVariables false
set_option linter.unusedSimpArgs false

theorem built24two (u : Bool) (n : Int) : (Try.prog.built 24 [(0, .bool u), (1, .int .u16 n)]) = some #[.bool u, .int .u16 n] := by kernel_rfl
theorem built29two (u n : Int) : (Try.prog.built 29 [(0, .int .u16 u), (1, .int .u8 n)]) = some #[.int .u16 u, .int .u8 n] := by kernel_rfl
theorem built31all (b : Bool) (p t np ns : Int) (d : ByteArray) : (Try.prog.built 31 [(0, .bool b), (1, .int .u16 p), (2, .int .u32 t), (3, .agg #[.int .u16 np, .int .u8 ns]), (4, .string d)]) = some #[.bool b, .int .u16 p, .int .u32 t, .int .u16 np, .int .u8 ns, .string d] := by kernel_rfl
set_option maxHeartbeats 1000000 in
theorem at_any (s : ByteArray) (a n : Nat) (w : World) (hs : s.size ≤ maxLen) (hn : n ≤ 8) (ha : a ≤ 1000) :
    Calls Try.prog 25 #[.string s, .int .i64 a, .int .i64 n] w fun e w' => e = .returned (.int .u64 (getN s a n)) ∧ w' = w := by
  have HG : Hid _ := fun w => rget_all s a n hs hn (by omega) w
  go_enter Try.func25, Try.ntmps25
  go_wp2_with (go_at_call 48; refine (HG.out _).mono ?_; clear HG; rintro e w1 ⟨rfl, rfl⟩)
  go_ret
  exact ⟨rfl, rfl⟩
set_option maxHeartbeats 1000000 in
theorem from_any (s : ByteArray) (i : Nat) (w : World) (hs : s.size ≤ maxLen) (hi : i ≤ 1000) :
    Calls Try.prog 26 #[.string s, .int .i64 i] w fun e w' => e = .returned (.string (fromS s i)) ∧ w' = w := by
  unfold maxLen at hs
  by_cases h : s.size < i
  · have HF : Hid (fromS s i = { data := #[] }) := by show _ = _; unfold fromS; rw [if_pos h]
    have h' : (s.size : Int) < (i : Int) := by omega
    rw [HF.out]
    go_enter Try.func26, Try.ntmps26
    go_wp2
    go_ret
    exact ⟨rfl, rfl⟩
  · have HF : Hid (fromS s i = s.extract i s.size) := by show _ = _; unfold fromS; rw [if_neg h]
    obtain ⟨X, hX⟩ : ∃ X, s.extract i s.size = X := ⟨_, rfl⟩
    have h' : ¬ (s.size : Int) < (i : Int) := by omega
    have h2 : (i : Int) ≤ (s.size : Int) := by omega
    rw [HF.out, hX]
    go_enter Try.func26, Try.ntmps26
    go_wp2
    go_ret
    exact ⟨rfl, rfl⟩
theorem R.setOne (r : R) (h : r.img.length = 224) (k : Nat) (hk : k < 224) (x : Int) : r.arr.setIfInBounds (3 + k) (.int .u8 x) = R.arr { r with img := r.img.set k x } := by
  unfold R.arr
  rw [List.setIfInBounds_toArray]
  congr 1
  have e : r.cells = [.int .u8 r.kind, .bool r.undo, .int .u16 r.no] ++ (r.img.map (Value.int .u8) ++ r.tail) := by simp [R.cells]
  rw [e, List.set_append_right _ _ (by simp), List.set_append_left _ _ (by simp [h]; omega)]
  simp [R.cells, R.tail, List.map_set]
set_option maxRecDepth 20000 in
set_option maxHeartbeats 8000000 in
theorem rdec_2 (s : ByteArray) (w : World) (hs : s.size ≤ maxLen) (h0 : 0 < s.size) (hk : byteAt s 0 = 2) :
    Calls Try.prog 14 #[.string s] w fun e w' => e = .returned (.tuple #[.agg (gotR s).arr, .bool (decR s).isSome]) ∧ Below w.heap.size w w' := by
  have hz := zero33
  have hs0 := R.arr_size R.zero (zs_length _)
  obtain ⟨a, ha⟩ : ∃ x, getN s 1 2 = x := ⟨_, rfl⟩
  have ba := getN2 s 1
  have HAa : Hid _ := fun w => at_any s 1 2 w hs (by decide) (by decide)
  rw [ha] at ba HAa
  have ma : a % 65536 = a := by omega
  obtain ⟨t, ht⟩ : ∃ x, getN s 3 4 = x := ⟨_, rfl⟩
  have bt := getN4 s 3
  have HAt : Hid _ := fun w => at_any s 3 4 w hs (by decide) (by decide)
  rw [ht] at bt HAt
  have mt : t % 4294967296 = t := by omega
  obtain ⟨p, hp⟩ : ∃ x, getN s 7 2 = x := ⟨_, rfl⟩
  have bp := getN2 s 7
  have HAp : Hid _ := fun w => at_any s 7 2 w hs (by decide) (by decide)
  rw [hp] at bp HAp
  have mp : p % 65536 = p := by omega
  obtain ⟨q, hq⟩ : ∃ x, getN s 9 1 = x := ⟨_, rfl⟩
  have bq := getN1 s 9
  have HAq : Hid _ := fun w => at_any s 9 1 w hs (by decide) (by decide)
  rw [hq] at bq HAq
  have mq : q % 256 = q := by omega
  obtain ⟨d, hd⟩ : ∃ x, fromS s 11 = x := ⟨_, rfl⟩
  have HAd : Hid _ := fun w => from_any s 11 w hs (by decide)
  rw [hd] at HAd
  have HL : Hid (loR s = { R.zero with kind := 2, no := a, ts := t, pp := p, ps := q, delta := d }) := by
    show _ = _
    unfold loR
    rw [hk]
    rw [if_neg (by decide), if_pos rfl]; unfold lo2; rw [ha, ht, hp, hq, hd]
  have HFT : R.Fits { R.zero with kind := 2, no := a, ts := t, pp := p, ps := q, delta := d } := by rw [← HL.out]; exact by rw [show loR s = lo2 s by unfold loR; rw [hk]; rfl]; exact lo2_fits s hs
  rw [byteAt_in s 0 h0] at hk
  have hx : ((s[0]'h0).toNat : Int) = 2 := hk
  have hxn : (s[0]'h0).toNat = 2 := by omega
  clear hk
  have h0i : (0 : Int) < (s.size : Int) := by omega
  obtain ⟨hn1, hn2⟩ := str_ne s h0
  have x2 : Row (w.alloc (.cells R.zero.arr 33)) w.heap.size R.zero.arr 33 := Row.new _ _ _
  have xb : Below w.heap.size w (w.alloc (.cells R.zero.arr 33)) := (Below.refl _ _).alloc (Nat.le_refl _) _
  go_enter Try.func14, Try.ntmps14
  go_upto_region 1 with fail
  generalize w.alloc (.cells R.zero.arr 33) = w1 at x2 xb ⊢
  have q2 := x2.alloc (.cells R.zero.arr 33)
  have q4 : Row (w1.alloc (.cells R.zero.arr 33)) w1.heap.size R.zero.arr 33 := Row.new _ _ _
  have qb := xb.alloc xb.size (.cells R.zero.arr 33)
  have hg4 := x2.lt
  go_upto_region 4 with (first
    | (refine build_parts rfl 33 #[(0, .tmp 13)] rfl [(0, .int .u8 2)] rfl _ (built33one 2) ?_)
    | (refine store_cells rfl 33 (.tmp 4) (.tmp 14) rfl w1.heap.size (R.arr { R.zero with kind := 2 }) rfl rfl 33 _ q4 238 size33 hs0 (R.arr_size _ (zs_length _)) (R.arr_one _) ?_))
  have x2_0 := q2.other (g := w1.heap.size) (by omega) (R.arr { R.zero with kind := 2 })
  have x4_0 := q4.set (R.arr { R.zero with kind := 2 })
  have xb_0 := below_setRow qb (Nat.le_of_lt hg4) (R.arr { R.zero with kind := 2 })
  clear x2 xb q2 q4 qb
  generalize (w1.alloc (.cells R.zero.arr 33)).setRow w1.heap.size (R.arr { R.zero with kind := 2 }) = W0 at x2_0 x4_0 xb_0 ⊢
  generalize w1.heap.size = g4 at x4_0 hg4 ⊢
  have k0 := row_at x4_0 0 _ (R.at0 _)
  go_upto_region 13 with fail
  clear k0
  have e2 := row_at x4_0 2 _ (R.at2 _)
  have f2 := row_frozen x4_0 2
  go_upto_region 14 with (first
    | (go_at_call 25; refine (HAa.out _).mono ?_; clear HAa; rintro e wa ⟨he, hww⟩; rw [hww]; clear hww wa; obtain rfl := he))
  have x4_1 := (row_set x4_0 2 (.int .u16 a))
  rw [R.set2] at x4_1
  simp only at x4_1
  have x2_1 := (row_setCell_other x2_0 (g := g4) (by omega) 2 (.int .u16 a))
  have xb_1 := ((xb_0).setCell (p := ⟨g4, 2, none⟩) (by show w.heap.size ≤ g4; omega) (.int .u16 a))
  clear x4_0 x2_0 xb_0 e2 f2
  generalize (W0.setCell ⟨g4, 2, none⟩ (.int .u16 a)) = W1 at x4_1 x2_1 xb_1 ⊢
  have e227 := row_at x4_1 227 _ (R.atT _ (zs_length _) 0)
  have f227 := row_frozen x4_1 227
  go_upto_region 15 with (first
    | (go_at_call 25; refine (HAt.out _).mono ?_; clear HAt; rintro e wa ⟨he, hww⟩; rw [hww]; clear hww wa; obtain rfl := he))
  have x4_2 := (row_set x4_1 227 (.int .u32 t))
  rw [R.set227 _ (zs_length _)] at x4_2
  simp only at x4_2
  have x2_2 := (row_setCell_other x2_1 (g := g4) (by omega) 227 (.int .u32 t))
  have xb_2 := ((xb_1).setCell (p := ⟨g4, 227, none⟩) (by show w.heap.size ≤ g4; omega) (.int .u32 t))
  clear x4_1 x2_1 xb_1 e227 f227
  generalize (W1.setCell ⟨g4, 227, none⟩ (.int .u32 t)) = W2 at x4_2 x2_2 xb_2 ⊢
  have e228 := row_at x4_2 228 _ (R.atT _ (zs_length _) 1)
  have f228 := row_frozen x4_2 228
  have e229 := row_at x4_2 229 _ (R.atT _ (zs_length _) 2)
  have f229 := row_frozen x4_2 229
  go_upto_region 16 with (first
    | (go_at_call 25; refine (HAp.out _).mono ?_; clear HAp; rintro e wa ⟨he, hww⟩; rw [hww]; clear hww wa; obtain rfl := he)
    | (go_at_call 25; refine (HAq.out _).mono ?_; clear HAq; rintro e wa ⟨he, hww⟩; rw [hww]; clear hww wa; obtain rfl := he)
    | (refine build_parts rfl 29 #[(0, .tmp 58), (1, .tmp 61)] rfl [(0, .int .u16 p), (1, .int .u8 q)] rfl _ (built29two _ _) ?_))
  have x4_3 := (row_set (row_set x4_2 228 (.int .u16 p)) 229 (.int .u8 q))
  rw [R.set228 _ (zs_length _)] at x4_3
  simp only at x4_3
  have x2_3 := (row_setCell_other (row_setCell_other x2_2 (g := g4) (by omega) 228 (.int .u16 p)) (g := g4) (by omega) 229 (.int .u8 q))
  have xb_3 := ((((xb_2).setCell (p := ⟨g4, 228, none⟩) (by show w.heap.size ≤ g4; omega) (.int .u16 p))).setCell (p := ⟨g4, 229, none⟩) (by show w.heap.size ≤ g4; omega) (.int .u8 q))
  clear x4_2 x2_2 xb_2 e228 f228 e229 f229
  generalize ((W2.setCell ⟨g4, 228, none⟩ (.int .u16 p)).setCell ⟨g4, 229, none⟩ (.int .u8 q)) = W3 at x4_3 x2_3 xb_3 ⊢
  have e230 := row_at x4_3 230 _ (R.atT _ (zs_length _) 3)
  have f230 := row_frozen x4_3 230
  go_upto_region 27 with (first
    | (go_at_call 26; refine (HAd.out _).mono ?_; clear HAd; rintro e wa ⟨he, hww⟩; rw [hww]; clear hww wa; obtain rfl := he))
  have x4_4 := (row_set x4_3 230 (.string d))
  rw [R.set230 _ (zs_length _)] at x4_4
  simp only at x4_4
  have x2_4 := (row_setCell_other x2_3 (g := g4) (by omega) 230 (.string d))
  have xb_4 := ((xb_3).setCell (p := ⟨g4, 230, none⟩) (by show w.heap.size ≤ g4; omega) (.string d))
  clear x4_3 x2_3 xb_3 e230 f230
  generalize (W3.setCell ⟨g4, 230, none⟩ (.string d)) = W4 at x4_4 x2_4 xb_4 ⊢
  obtain ⟨r, hr⟩ : ∃ r : R, Hid ({ R.zero with kind := 2, no := a, ts := t, pp := p, ps := q, delta := d } = r) := ⟨_, rfl⟩
  have y4 : Row W4 g4 r.arr 33 := by rw [← hr.out]; exact x4_4
  have HF : r.Fits := by rw [← hr.out]; exact HFT
  have HD : Hid (decR s = if mayR r = true ∧ encS r = s then some r else none) := by show _ = _; rw [← hr.out]; exact by have q := lo_dec s; rw [HL.out] at q; exact q HFT
  have y2 := x2_4
  have yb := xb_4
  clear x4_4 x2_4 xb_4 hr
  have hsr := R.arr_size r HF.len
  have HE : Hid _ := fun w => renc_any r w HF
  cases hm : mayR r with
  | false =>
    rw [hm] at HE
    have hdn : decR s = none := by rw [HD.out, if_neg (by rw [hm]; simp)]
    have HG : Hid (gotR s = R.zero) := by show _ = _; unfold gotR; rw [hdn]; rfl
    have HI : Hid ((decR s).isSome = false) := by show _ = _; rw [hdn]; rfl
    clear hdn HD hm
    generalize encS r = sr at *
    go_upto_region 29 with (first
      | (refine load_cells rfl 33 (.tmp 4) rfl g4 rfl 33 r.arr y4 238 Try.underlying33 rfl size33 hsr ?_)
      | (go_at_call 10; refine (HE.out _).mono ?_; clear HE; rintro e w5 ⟨rfl, h5⟩; have z2 := y2.below h5 y2.lt; have z4 := y4.below h5 y4.lt; have zb := yb.trans (h5.mono yb.size)))
    go_wp2_with (first
      | (refine build_parts rfl 33 #[] rfl [] rfl _ built33 ?_)
      | (refine store_cells rfl 33 (.tmp 2) (.tmp 125) rfl w.heap.size R.zero.arr rfl rfl 33 _ z2 238 size33 hs0 hs0 (R.arr_one _) ?_))
    refine bodyPost_ret (v := .tuple #[.agg R.zero.arr, .bool false]) ?_ rfl ⟨by rw [HG.out, HI.out], below_setRow zb (Nat.le_refl _) _⟩
    exact ret_cell2 (fn := Try.f14) rfl _ _ w.heap.size 33 _ _ (.bool false) rfl rfl (z2.set _) Try.underlying33 rfl (by rw [size33, hs0])
  | true =>
    rw [hm] at HE
    by_cases he : encS r = s
    · rw [he] at HE
      have hdn : decR s = some r := by rw [HD.out, if_pos ⟨hm, he⟩]
      have HG : Hid (gotR s = r) := by show _ = _; unfold gotR; rw [hdn]; rfl
      have HI : Hid ((decR s).isSome = true) := by show _ = _; rw [hdn]; rfl
      clear hdn HD hm he
      go_upto_region 30 with (first
        | (refine load_cells rfl 33 (.tmp 4) rfl g4 rfl 33 r.arr y4 238 Try.underlying33 rfl size33 hsr ?_)
        | (go_at_call 10; refine (HE.out _).mono ?_; clear HE; rintro e w5 ⟨rfl, h5⟩; have z2 := y2.below h5 y2.lt; have z4 := y4.below h5 y4.lt; have zb := yb.trans (h5.mono yb.size)))
      go_wp2_with (first
        | (refine load_cells rfl 33 (.tmp 4) rfl g4 rfl 33 r.arr z4 238 Try.underlying33 rfl size33 hsr ?_)
        | (refine store_cells rfl 33 (.tmp 2) (.tmp 126) rfl w.heap.size r.arr rfl rfl 33 _ z2 238 size33 hs0 hsr (R.arr_one _) ?_))
      refine bodyPost_ret (v := .tuple #[.agg r.arr, .bool true]) ?_ rfl ⟨by rw [HG.out, HI.out], below_setRow zb (Nat.le_refl _) _⟩
      exact ret_cell2 (fn := Try.f14) rfl _ _ w.heap.size 33 _ _ (.bool true) rfl rfl (z2.set _) Try.underlying33 rfl (by rw [size33, hsr])
    · have hq0 : ¬ (encS r).toList = s.toList := fun z => he (bytes_inj z)
      have hq' : ((encS r).toList == s.toList) = false := by simpa using hq0
      have hdn : decR s = none := by rw [HD.out, if_neg (by rintro ⟨_, z⟩; exact he z)]
      have HG : Hid (gotR s = R.zero) := by show _ = _; unfold gotR; rw [hdn]; rfl
      have HI : Hid ((decR s).isSome = false) := by show _ = _; rw [hdn]; rfl
      clear hdn HD hm he
      generalize encS r = sr at HE hq0 hq'
      go_upto_region 29 with (first
        | (refine load_cells rfl 33 (.tmp 4) rfl g4 rfl 33 r.arr y4 238 Try.underlying33 rfl size33 hsr ?_)
        | (go_at_call 10; refine (HE.out _).mono ?_; clear HE; rintro e w5 ⟨rfl, h5⟩; have z2 := y2.below h5 y2.lt; have z4 := y4.below h5 y4.lt; have zb := yb.trans (h5.mono yb.size)))
      go_wp2_with (first
        | (refine build_parts rfl 33 #[] rfl [] rfl _ built33 ?_)
        | (refine store_cells rfl 33 (.tmp 2) (.tmp 125) rfl w.heap.size R.zero.arr rfl rfl 33 _ z2 238 size33 hs0 hs0 (R.arr_one _) ?_))
      refine bodyPost_ret (v := .tuple #[.agg R.zero.arr, .bool false]) ?_ rfl ⟨by rw [HG.out, HI.out], below_setRow zb (Nat.le_refl _) _⟩
      exact ret_cell2 (fn := Try.f14) rfl _ _ w.heap.size 33 _ _ (.bool false) rfl rfl (z2.set _) Try.underlying33 rfl (by rw [size33, hs0])
set_option maxRecDepth 20000 in
set_option maxHeartbeats 8000000 in
theorem rdec_3 (s : ByteArray) (w : World) (hs : s.size ≤ maxLen) (h0 : 0 < s.size) (hk : byteAt s 0 = 3) :
    Calls Try.prog 14 #[.string s] w fun e w' => e = .returned (.tuple #[.agg (gotR s).arr, .bool (decR s).isSome]) ∧ Below w.heap.size w w' := by
  have hz := zero33
  have hs0 := R.arr_size R.zero (zs_length _)
  obtain ⟨a, ha⟩ : ∃ x, getN s 1 2 = x := ⟨_, rfl⟩
  have ba := getN2 s 1
  have HAa : Hid _ := fun w => at_any s 1 2 w hs (by decide) (by decide)
  rw [ha] at ba HAa
  have ma : a % 65536 = a := by omega
  obtain ⟨l, hl⟩ : ∃ x, getN s 3 1 = x := ⟨_, rfl⟩
  have bl := getN1 s 3
  have HAl : Hid _ := fun w => at_any s 3 1 w hs (by decide) (by decide)
  rw [hl] at bl HAl
  have ml : l % 256 = l := by omega
  obtain ⟨p, hp⟩ : ∃ x, getN s 4 2 = x := ⟨_, rfl⟩
  have bp := getN2 s 4
  have HAp : Hid _ := fun w => at_any s 4 2 w hs (by decide) (by decide)
  rw [hp] at bp HAp
  have mp : p % 65536 = p := by omega
  obtain ⟨t, ht⟩ : ∃ x, getN s 6 4 = x := ⟨_, rfl⟩
  have bt := getN4 s 6
  have HAt : Hid _ := fun w => at_any s 6 4 w hs (by decide) (by decide)
  rw [ht] at bt HAt
  have mt : t % 4294967296 = t := by omega
  obtain ⟨m, hm⟩ : ∃ x, getN s 10 2 = x := ⟨_, rfl⟩
  have bm := getN2 s 10
  have HAm : Hid _ := fun w => at_any s 10 2 w hs (by decide) (by decide)
  rw [hm] at bm HAm
  have mm : m % 65536 = m := by omega
  obtain ⟨q, hq⟩ : ∃ x, getN s 12 1 = x := ⟨_, rfl⟩
  have bq := getN1 s 12
  have HAq : Hid _ := fun w => at_any s 12 1 w hs (by decide) (by decide)
  rw [hq] at bq HAq
  have mq : q % 256 = q := by omega
  obtain ⟨d, hd⟩ : ∃ x, fromS s 14 = x := ⟨_, rfl⟩
  have HAd : Hid _ := fun w => from_any s 14 w hs (by decide)
  rw [hd] at HAd
  have HL : Hid (loR s = { R.zero with kind := 3, undo := true, no := a, slot := l, old := ⟨true, p, t, m, q, d⟩ }) := by
    show _ = _
    unfold loR
    rw [hk]
    rw [if_neg (by decide), if_neg (by decide), if_pos rfl]; unfold lo3; rw [ha, hl, hp, ht, hm, hq, hd]
  have HFT : R.Fits { R.zero with kind := 3, undo := true, no := a, slot := l, old := ⟨true, p, t, m, q, d⟩ } := by rw [← HL.out]; exact by rw [show loR s = lo3 s by unfold loR; rw [hk]; rfl]; exact lo3_fits s hs
  rw [byteAt_in s 0 h0] at hk
  have hx : ((s[0]'h0).toNat : Int) = 3 := hk
  have hxn : (s[0]'h0).toNat = 3 := by omega
  clear hk
  have h0i : (0 : Int) < (s.size : Int) := by omega
  obtain ⟨hn1, hn2⟩ := str_ne s h0
  have x2 : Row (w.alloc (.cells R.zero.arr 33)) w.heap.size R.zero.arr 33 := Row.new _ _ _
  have xb : Below w.heap.size w (w.alloc (.cells R.zero.arr 33)) := (Below.refl _ _).alloc (Nat.le_refl _) _
  go_enter Try.func14, Try.ntmps14
  go_upto_region 1 with fail
  generalize w.alloc (.cells R.zero.arr 33) = w1 at x2 xb ⊢
  have q2 := x2.alloc (.cells R.zero.arr 33)
  have q4 : Row (w1.alloc (.cells R.zero.arr 33)) w1.heap.size R.zero.arr 33 := Row.new _ _ _
  have qb := xb.alloc xb.size (.cells R.zero.arr 33)
  have hg4 := x2.lt
  go_upto_region 4 with (first
    | (refine build_parts rfl 33 #[(0, .tmp 13)] rfl [(0, .int .u8 3)] rfl _ (built33one 3) ?_)
    | (refine store_cells rfl 33 (.tmp 4) (.tmp 14) rfl w1.heap.size (R.arr { R.zero with kind := 3 }) rfl rfl 33 _ q4 238 size33 hs0 (R.arr_size _ (zs_length _)) (R.arr_one _) ?_))
  have x2_0 := q2.other (g := w1.heap.size) (by omega) (R.arr { R.zero with kind := 3 })
  have x4_0 := q4.set (R.arr { R.zero with kind := 3 })
  have xb_0 := below_setRow qb (Nat.le_of_lt hg4) (R.arr { R.zero with kind := 3 })
  clear x2 xb q2 q4 qb
  generalize (w1.alloc (.cells R.zero.arr 33)).setRow w1.heap.size (R.arr { R.zero with kind := 3 }) = W0 at x2_0 x4_0 xb_0 ⊢
  generalize w1.heap.size = g4 at x4_0 hg4 ⊢
  have k0 := row_at x4_0 0 _ (R.at0 _)
  go_upto_region 18 with fail
  clear k0
  have e1 := row_at x4_0 1 _ (R.at1 _)
  have f1 := row_frozen x4_0 1
  have e2 := row_at x4_0 2 _ (R.at2 _)
  have f2 := row_frozen x4_0 2
  go_upto_region 19 with (first
    | (go_at_call 25; refine (HAa.out _).mono ?_; clear HAa; rintro e wa ⟨he, hww⟩; rw [hww]; clear hww wa; obtain rfl := he)
    | (refine build_parts rfl 24 #[(0, .const (.bool true)), (1, .tmp 71)] rfl [(0, .bool true), (1, .int .u16 a)] rfl _ (built24two _ _) ?_))
  have x4_1 := (row_set (row_set x4_0 1 (.bool true)) 2 (.int .u16 a))
  rw [R.set12] at x4_1
  simp only at x4_1
  have x2_1 := (row_setCell_other (row_setCell_other x2_0 (g := g4) (by omega) 1 (.bool true)) (g := g4) (by omega) 2 (.int .u16 a))
  have xb_1 := ((((xb_0).setCell (p := ⟨g4, 1, none⟩) (by show w.heap.size ≤ g4; omega) (.bool true))).setCell (p := ⟨g4, 2, none⟩) (by show w.heap.size ≤ g4; omega) (.int .u16 a))
  clear x4_0 x2_0 xb_0 e1 f1 e2 f2
  generalize ((W0.setCell ⟨g4, 1, none⟩ (.bool true)).setCell ⟨g4, 2, none⟩ (.int .u16 a)) = W1 at x4_1 x2_1 xb_1 ⊢
  have e231 := row_at x4_1 231 _ (R.atT _ (zs_length _) 4)
  have f231 := row_frozen x4_1 231
  go_upto_region 20 with (first
    | (go_at_call 25; refine (HAl.out _).mono ?_; clear HAl; rintro e wa ⟨he, hww⟩; rw [hww]; clear hww wa; obtain rfl := he))
  have x4_2 := (row_set x4_1 231 (.int .u8 l))
  rw [R.set231 _ (zs_length _)] at x4_2
  simp only at x4_2
  have x2_2 := (row_setCell_other x2_1 (g := g4) (by omega) 231 (.int .u8 l))
  have xb_2 := ((xb_1).setCell (p := ⟨g4, 231, none⟩) (by show w.heap.size ≤ g4; omega) (.int .u8 l))
  clear x4_1 x2_1 xb_1 e231 f231
  generalize (W1.setCell ⟨g4, 231, none⟩ (.int .u8 l)) = W2 at x4_2 x2_2 xb_2 ⊢
  have e232 := row_at x4_2 232 _ (R.atT _ (zs_length _) 5)
  have f232 := row_frozen x4_2 232
  have e233 := row_at x4_2 233 _ (R.atT _ (zs_length _) 6)
  have f233 := row_frozen x4_2 233
  have e234 := row_at x4_2 234 _ (R.atT _ (zs_length _) 7)
  have f234 := row_frozen x4_2 234
  have e235 := row_at x4_2 235 _ (R.atT _ (zs_length _) 8)
  have f235 := row_frozen x4_2 235
  have e236 := row_at x4_2 236 _ (R.atT _ (zs_length _) 9)
  have f236 := row_frozen x4_2 236
  have e237 := row_at x4_2 237 _ (R.atT _ (zs_length _) 10)
  have f237 := row_frozen x4_2 237
  go_upto_region 27 with (first
    | (go_at_call 25; refine (HAp.out _).mono ?_; clear HAp; rintro e wa ⟨he, hww⟩; rw [hww]; clear hww wa; obtain rfl := he)
    | (go_at_call 25; refine (HAt.out _).mono ?_; clear HAt; rintro e wa ⟨he, hww⟩; rw [hww]; clear hww wa; obtain rfl := he)
    | (go_at_call 25; refine (HAm.out _).mono ?_; clear HAm; rintro e wa ⟨he, hww⟩; rw [hww]; clear hww wa; obtain rfl := he)
    | (go_at_call 25; refine (HAq.out _).mono ?_; clear HAq; rintro e wa ⟨he, hww⟩; rw [hww]; clear hww wa; obtain rfl := he)
    | (refine build_parts rfl 29 #[(0, .tmp 86), (1, .tmp 89)] rfl [(0, .int .u16 m), (1, .int .u8 q)] rfl _ (built29two _ _) ?_)
    | (go_at_call 26; refine (HAd.out _).mono ?_; clear HAd; rintro e wa ⟨he, hww⟩; rw [hww]; clear hww wa; obtain rfl := he)
    | (refine build_parts rfl 31 #[(0, .const (.bool true)), (1, .tmp 80), (2, .tmp 83), (3, .tmp 90), (4, .tmp 92)] rfl [(0, .bool true), (1, .int .u16 p), (2, .int .u32 t), (3, .agg #[.int .u16 m, .int .u8 q]), (4, .string d)] rfl _ (built31all _ _ _ _ _ _) ?_))
  have x4_3 := (row_set (row_set (row_set (row_set (row_set (row_set x4_2 232 (.bool true)) 233 (.int .u16 p)) 234 (.int .u32 t)) 235 (.int .u16 m)) 236 (.int .u8 q)) 237 (.string d))
  rw [R.set232s _ (zs_length _)] at x4_3
  simp only at x4_3
  have x2_3 := (row_setCell_other (row_setCell_other (row_setCell_other (row_setCell_other (row_setCell_other (row_setCell_other x2_2 (g := g4) (by omega) 232 (.bool true)) (g := g4) (by omega) 233 (.int .u16 p)) (g := g4) (by omega) 234 (.int .u32 t)) (g := g4) (by omega) 235 (.int .u16 m)) (g := g4) (by omega) 236 (.int .u8 q)) (g := g4) (by omega) 237 (.string d))
  have xb_3 := ((((((((((((xb_2).setCell (p := ⟨g4, 232, none⟩) (by show w.heap.size ≤ g4; omega) (.bool true))).setCell (p := ⟨g4, 233, none⟩) (by show w.heap.size ≤ g4; omega) (.int .u16 p))).setCell (p := ⟨g4, 234, none⟩) (by show w.heap.size ≤ g4; omega) (.int .u32 t))).setCell (p := ⟨g4, 235, none⟩) (by show w.heap.size ≤ g4; omega) (.int .u16 m))).setCell (p := ⟨g4, 236, none⟩) (by show w.heap.size ≤ g4; omega) (.int .u8 q))).setCell (p := ⟨g4, 237, none⟩) (by show w.heap.size ≤ g4; omega) (.string d))
  clear x4_2 x2_2 xb_2 e232 f232 e233 f233 e234 f234 e235 f235 e236 f236 e237 f237
  generalize ((((((W2.setCell ⟨g4, 232, none⟩ (.bool true)).setCell ⟨g4, 233, none⟩ (.int .u16 p)).setCell ⟨g4, 234, none⟩ (.int .u32 t)).setCell ⟨g4, 235, none⟩ (.int .u16 m)).setCell ⟨g4, 236, none⟩ (.int .u8 q)).setCell ⟨g4, 237, none⟩ (.string d)) = W3 at x4_3 x2_3 xb_3 ⊢
  obtain ⟨r, hr⟩ : ∃ r : R, Hid ({ R.zero with kind := 3, undo := true, no := a, slot := l, old := ⟨true, p, t, m, q, d⟩ } = r) := ⟨_, rfl⟩
  have y4 : Row W3 g4 r.arr 33 := by rw [← hr.out]; exact x4_3
  have HF : r.Fits := by rw [← hr.out]; exact HFT
  have HD : Hid (decR s = if mayR r = true ∧ encS r = s then some r else none) := by show _ = _; rw [← hr.out]; exact by have q := lo_dec s; rw [HL.out] at q; exact q HFT
  have y2 := x2_3
  have yb := xb_3
  clear x4_3 x2_3 xb_3 hr
  have hsr := R.arr_size r HF.len
  have HE : Hid _ := fun w => renc_any r w HF
  cases hm : mayR r with
  | false =>
    rw [hm] at HE
    have hdn : decR s = none := by rw [HD.out, if_neg (by rw [hm]; simp)]
    have HG : Hid (gotR s = R.zero) := by show _ = _; unfold gotR; rw [hdn]; rfl
    have HI : Hid ((decR s).isSome = false) := by show _ = _; rw [hdn]; rfl
    clear hdn HD hm
    generalize encS r = sr at *
    go_upto_region 29 with (first
      | (refine load_cells rfl 33 (.tmp 4) rfl g4 rfl 33 r.arr y4 238 Try.underlying33 rfl size33 hsr ?_)
      | (go_at_call 10; refine (HE.out _).mono ?_; clear HE; rintro e w5 ⟨rfl, h5⟩; have z2 := y2.below h5 y2.lt; have z4 := y4.below h5 y4.lt; have zb := yb.trans (h5.mono yb.size)))
    go_wp2_with (first
      | (refine build_parts rfl 33 #[] rfl [] rfl _ built33 ?_)
      | (refine store_cells rfl 33 (.tmp 2) (.tmp 125) rfl w.heap.size R.zero.arr rfl rfl 33 _ z2 238 size33 hs0 hs0 (R.arr_one _) ?_))
    refine bodyPost_ret (v := .tuple #[.agg R.zero.arr, .bool false]) ?_ rfl ⟨by rw [HG.out, HI.out], below_setRow zb (Nat.le_refl _) _⟩
    exact ret_cell2 (fn := Try.f14) rfl _ _ w.heap.size 33 _ _ (.bool false) rfl rfl (z2.set _) Try.underlying33 rfl (by rw [size33, hs0])
  | true =>
    rw [hm] at HE
    by_cases he : encS r = s
    · rw [he] at HE
      have hdn : decR s = some r := by rw [HD.out, if_pos ⟨hm, he⟩]
      have HG : Hid (gotR s = r) := by show _ = _; unfold gotR; rw [hdn]; rfl
      have HI : Hid ((decR s).isSome = true) := by show _ = _; rw [hdn]; rfl
      clear hdn HD hm he
      go_upto_region 30 with (first
        | (refine load_cells rfl 33 (.tmp 4) rfl g4 rfl 33 r.arr y4 238 Try.underlying33 rfl size33 hsr ?_)
        | (go_at_call 10; refine (HE.out _).mono ?_; clear HE; rintro e w5 ⟨rfl, h5⟩; have z2 := y2.below h5 y2.lt; have z4 := y4.below h5 y4.lt; have zb := yb.trans (h5.mono yb.size)))
      go_wp2_with (first
        | (refine load_cells rfl 33 (.tmp 4) rfl g4 rfl 33 r.arr z4 238 Try.underlying33 rfl size33 hsr ?_)
        | (refine store_cells rfl 33 (.tmp 2) (.tmp 126) rfl w.heap.size r.arr rfl rfl 33 _ z2 238 size33 hs0 hsr (R.arr_one _) ?_))
      refine bodyPost_ret (v := .tuple #[.agg r.arr, .bool true]) ?_ rfl ⟨by rw [HG.out, HI.out], below_setRow zb (Nat.le_refl _) _⟩
      exact ret_cell2 (fn := Try.f14) rfl _ _ w.heap.size 33 _ _ (.bool true) rfl rfl (z2.set _) Try.underlying33 rfl (by rw [size33, hsr])
    · have hq0 : ¬ (encS r).toList = s.toList := fun z => he (bytes_inj z)
      have hq' : ((encS r).toList == s.toList) = false := by simpa using hq0
      have hdn : decR s = none := by rw [HD.out, if_neg (by rintro ⟨_, z⟩; exact he z)]
      have HG : Hid (gotR s = R.zero) := by show _ = _; unfold gotR; rw [hdn]; rfl
      have HI : Hid ((decR s).isSome = false) := by show _ = _; rw [hdn]; rfl
      clear hdn HD hm he
      generalize encS r = sr at HE hq0 hq'
      go_upto_region 29 with (first
        | (refine load_cells rfl 33 (.tmp 4) rfl g4 rfl 33 r.arr y4 238 Try.underlying33 rfl size33 hsr ?_)
        | (go_at_call 10; refine (HE.out _).mono ?_; clear HE; rintro e w5 ⟨rfl, h5⟩; have z2 := y2.below h5 y2.lt; have z4 := y4.below h5 y4.lt; have zb := yb.trans (h5.mono yb.size)))
      go_wp2_with (first
        | (refine build_parts rfl 33 #[] rfl [] rfl _ built33 ?_)
        | (refine store_cells rfl 33 (.tmp 2) (.tmp 125) rfl w.heap.size R.zero.arr rfl rfl 33 _ z2 238 size33 hs0 hs0 (R.arr_one _) ?_))
      refine bodyPost_ret (v := .tuple #[.agg R.zero.arr, .bool false]) ?_ rfl ⟨by rw [HG.out, HI.out], below_setRow zb (Nat.le_refl _) _⟩
      exact ret_cell2 (fn := Try.f14) rfl _ _ w.heap.size 33 _ _ (.bool false) rfl rfl (z2.set _) Try.underlying33 rfl (by rw [size33, hs0])
set_option maxRecDepth 20000 in
set_option maxHeartbeats 8000000 in
theorem rdec_4 (s : ByteArray) (w : World) (hs : s.size ≤ maxLen) (h0 : 0 < s.size) (hk : byteAt s 0 = 4) :
    Calls Try.prog 14 #[.string s] w fun e w' => e = .returned (.tuple #[.agg (gotR s).arr, .bool (decR s).isSome]) ∧ Below w.heap.size w w' := by
  have hz := zero33
  have hs0 := R.arr_size R.zero (zs_length _)
  obtain ⟨a, ha⟩ : ∃ x, getN s 1 2 = x := ⟨_, rfl⟩
  have ba := getN2 s 1
  have HAa : Hid _ := fun w => at_any s 1 2 w hs (by decide) (by decide)
  rw [ha] at ba HAa
  have ma : a % 65536 = a := by omega
  obtain ⟨l, hl⟩ : ∃ x, getN s 3 1 = x := ⟨_, rfl⟩
  have bl := getN1 s 3
  have HAl : Hid _ := fun w => at_any s 3 1 w hs (by decide) (by decide)
  rw [hl] at bl HAl
  have ml : l % 256 = l := by omega
  have HL : Hid (loR s = { R.zero with kind := 4, undo := true, no := a, slot := l }) := by
    show _ = _
    unfold loR
    rw [hk]
    rw [if_neg (by decide), if_neg (by decide), if_neg (by decide), if_pos rfl]; unfold lo45; rw [ha, hl]
  have HFT : R.Fits { R.zero with kind := 4, undo := true, no := a, slot := l } := by rw [← HL.out]; exact by rw [show loR s = lo45 4 s by unfold loR; rw [hk]; rfl]; exact lo45_fits 4 s (by decide)
  rw [byteAt_in s 0 h0] at hk
  have hx : ((s[0]'h0).toNat : Int) = 4 := hk
  have hxn : (s[0]'h0).toNat = 4 := by omega
  clear hk
  have h0i : (0 : Int) < (s.size : Int) := by omega
  obtain ⟨hn1, hn2⟩ := str_ne s h0
  have x2 : Row (w.alloc (.cells R.zero.arr 33)) w.heap.size R.zero.arr 33 := Row.new _ _ _
  have xb : Below w.heap.size w (w.alloc (.cells R.zero.arr 33)) := (Below.refl _ _).alloc (Nat.le_refl _) _
  go_enter Try.func14, Try.ntmps14
  go_upto_region 1 with fail
  generalize w.alloc (.cells R.zero.arr 33) = w1 at x2 xb ⊢
  have q2 := x2.alloc (.cells R.zero.arr 33)
  have q4 : Row (w1.alloc (.cells R.zero.arr 33)) w1.heap.size R.zero.arr 33 := Row.new _ _ _
  have qb := xb.alloc xb.size (.cells R.zero.arr 33)
  have hg4 := x2.lt
  go_upto_region 4 with (first
    | (refine build_parts rfl 33 #[(0, .tmp 13)] rfl [(0, .int .u8 4)] rfl _ (built33one 4) ?_)
    | (refine store_cells rfl 33 (.tmp 4) (.tmp 14) rfl w1.heap.size (R.arr { R.zero with kind := 4 }) rfl rfl 33 _ q4 238 size33 hs0 (R.arr_size _ (zs_length _)) (R.arr_one _) ?_))
  have x2_0 := q2.other (g := w1.heap.size) (by omega) (R.arr { R.zero with kind := 4 })
  have x4_0 := q4.set (R.arr { R.zero with kind := 4 })
  have xb_0 := below_setRow qb (Nat.le_of_lt hg4) (R.arr { R.zero with kind := 4 })
  clear x2 xb q2 q4 qb
  generalize (w1.alloc (.cells R.zero.arr 33)).setRow w1.heap.size (R.arr { R.zero with kind := 4 }) = W0 at x2_0 x4_0 xb_0 ⊢
  generalize w1.heap.size = g4 at x4_0 hg4 ⊢
  have k0 := row_at x4_0 0 _ (R.at0 _)
  go_upto_region 23 with fail
  clear k0
  have e1 := row_at x4_0 1 _ (R.at1 _)
  have f1 := row_frozen x4_0 1
  have e2 := row_at x4_0 2 _ (R.at2 _)
  have f2 := row_frozen x4_0 2
  go_upto_region 24 with (first
    | (go_at_call 25; refine (HAa.out _).mono ?_; clear HAa; rintro e wa ⟨he, hww⟩; rw [hww]; clear hww wa; obtain rfl := he)
    | (refine build_parts rfl 24 #[(0, .const (.bool true)), (1, .tmp 100)] rfl [(0, .bool true), (1, .int .u16 a)] rfl _ (built24two _ _) ?_))
  have x4_1 := (row_set (row_set x4_0 1 (.bool true)) 2 (.int .u16 a))
  rw [R.set12] at x4_1
  simp only at x4_1
  have x2_1 := (row_setCell_other (row_setCell_other x2_0 (g := g4) (by omega) 1 (.bool true)) (g := g4) (by omega) 2 (.int .u16 a))
  have xb_1 := ((((xb_0).setCell (p := ⟨g4, 1, none⟩) (by show w.heap.size ≤ g4; omega) (.bool true))).setCell (p := ⟨g4, 2, none⟩) (by show w.heap.size ≤ g4; omega) (.int .u16 a))
  clear x4_0 x2_0 xb_0 e1 f1 e2 f2
  generalize ((W0.setCell ⟨g4, 1, none⟩ (.bool true)).setCell ⟨g4, 2, none⟩ (.int .u16 a)) = W1 at x4_1 x2_1 xb_1 ⊢
  have e231 := row_at x4_1 231 _ (R.atT _ (zs_length _) 4)
  have f231 := row_frozen x4_1 231
  go_upto_region 27 with (first
    | (go_at_call 25; refine (HAl.out _).mono ?_; clear HAl; rintro e wa ⟨he, hww⟩; rw [hww]; clear hww wa; obtain rfl := he))
  have x4_2 := (row_set x4_1 231 (.int .u8 l))
  rw [R.set231 _ (zs_length _)] at x4_2
  simp only at x4_2
  have x2_2 := (row_setCell_other x2_1 (g := g4) (by omega) 231 (.int .u8 l))
  have xb_2 := ((xb_1).setCell (p := ⟨g4, 231, none⟩) (by show w.heap.size ≤ g4; omega) (.int .u8 l))
  clear x4_1 x2_1 xb_1 e231 f231
  generalize (W1.setCell ⟨g4, 231, none⟩ (.int .u8 l)) = W2 at x4_2 x2_2 xb_2 ⊢
  obtain ⟨r, hr⟩ : ∃ r : R, Hid ({ R.zero with kind := 4, undo := true, no := a, slot := l } = r) := ⟨_, rfl⟩
  have y4 : Row W2 g4 r.arr 33 := by rw [← hr.out]; exact x4_2
  have HF : r.Fits := by rw [← hr.out]; exact HFT
  have HD : Hid (decR s = if mayR r = true ∧ encS r = s then some r else none) := by show _ = _; rw [← hr.out]; exact by have q := lo_dec s; rw [HL.out] at q; exact q HFT
  have y2 := x2_2
  have yb := xb_2
  clear x4_2 x2_2 xb_2 hr
  have hsr := R.arr_size r HF.len
  have HE : Hid _ := fun w => renc_any r w HF
  cases hm : mayR r with
  | false =>
    rw [hm] at HE
    have hdn : decR s = none := by rw [HD.out, if_neg (by rw [hm]; simp)]
    have HG : Hid (gotR s = R.zero) := by show _ = _; unfold gotR; rw [hdn]; rfl
    have HI : Hid ((decR s).isSome = false) := by show _ = _; rw [hdn]; rfl
    clear hdn HD hm
    generalize encS r = sr at *
    go_upto_region 29 with (first
      | (refine load_cells rfl 33 (.tmp 4) rfl g4 rfl 33 r.arr y4 238 Try.underlying33 rfl size33 hsr ?_)
      | (go_at_call 10; refine (HE.out _).mono ?_; clear HE; rintro e w5 ⟨rfl, h5⟩; have z2 := y2.below h5 y2.lt; have z4 := y4.below h5 y4.lt; have zb := yb.trans (h5.mono yb.size)))
    go_wp2_with (first
      | (refine build_parts rfl 33 #[] rfl [] rfl _ built33 ?_)
      | (refine store_cells rfl 33 (.tmp 2) (.tmp 125) rfl w.heap.size R.zero.arr rfl rfl 33 _ z2 238 size33 hs0 hs0 (R.arr_one _) ?_))
    refine bodyPost_ret (v := .tuple #[.agg R.zero.arr, .bool false]) ?_ rfl ⟨by rw [HG.out, HI.out], below_setRow zb (Nat.le_refl _) _⟩
    exact ret_cell2 (fn := Try.f14) rfl _ _ w.heap.size 33 _ _ (.bool false) rfl rfl (z2.set _) Try.underlying33 rfl (by rw [size33, hs0])
  | true =>
    rw [hm] at HE
    by_cases he : encS r = s
    · rw [he] at HE
      have hdn : decR s = some r := by rw [HD.out, if_pos ⟨hm, he⟩]
      have HG : Hid (gotR s = r) := by show _ = _; unfold gotR; rw [hdn]; rfl
      have HI : Hid ((decR s).isSome = true) := by show _ = _; rw [hdn]; rfl
      clear hdn HD hm he
      go_upto_region 30 with (first
        | (refine load_cells rfl 33 (.tmp 4) rfl g4 rfl 33 r.arr y4 238 Try.underlying33 rfl size33 hsr ?_)
        | (go_at_call 10; refine (HE.out _).mono ?_; clear HE; rintro e w5 ⟨rfl, h5⟩; have z2 := y2.below h5 y2.lt; have z4 := y4.below h5 y4.lt; have zb := yb.trans (h5.mono yb.size)))
      go_wp2_with (first
        | (refine load_cells rfl 33 (.tmp 4) rfl g4 rfl 33 r.arr z4 238 Try.underlying33 rfl size33 hsr ?_)
        | (refine store_cells rfl 33 (.tmp 2) (.tmp 126) rfl w.heap.size r.arr rfl rfl 33 _ z2 238 size33 hs0 hsr (R.arr_one _) ?_))
      refine bodyPost_ret (v := .tuple #[.agg r.arr, .bool true]) ?_ rfl ⟨by rw [HG.out, HI.out], below_setRow zb (Nat.le_refl _) _⟩
      exact ret_cell2 (fn := Try.f14) rfl _ _ w.heap.size 33 _ _ (.bool true) rfl rfl (z2.set _) Try.underlying33 rfl (by rw [size33, hsr])
    · have hq0 : ¬ (encS r).toList = s.toList := fun z => he (bytes_inj z)
      have hq' : ((encS r).toList == s.toList) = false := by simpa using hq0
      have hdn : decR s = none := by rw [HD.out, if_neg (by rintro ⟨_, z⟩; exact he z)]
      have HG : Hid (gotR s = R.zero) := by show _ = _; unfold gotR; rw [hdn]; rfl
      have HI : Hid ((decR s).isSome = false) := by show _ = _; rw [hdn]; rfl
      clear hdn HD hm he
      generalize encS r = sr at HE hq0 hq'
      go_upto_region 29 with (first
        | (refine load_cells rfl 33 (.tmp 4) rfl g4 rfl 33 r.arr y4 238 Try.underlying33 rfl size33 hsr ?_)
        | (go_at_call 10; refine (HE.out _).mono ?_; clear HE; rintro e w5 ⟨rfl, h5⟩; have z2 := y2.below h5 y2.lt; have z4 := y4.below h5 y4.lt; have zb := yb.trans (h5.mono yb.size)))
      go_wp2_with (first
        | (refine build_parts rfl 33 #[] rfl [] rfl _ built33 ?_)
        | (refine store_cells rfl 33 (.tmp 2) (.tmp 125) rfl w.heap.size R.zero.arr rfl rfl 33 _ z2 238 size33 hs0 hs0 (R.arr_one _) ?_))
      refine bodyPost_ret (v := .tuple #[.agg R.zero.arr, .bool false]) ?_ rfl ⟨by rw [HG.out, HI.out], below_setRow zb (Nat.le_refl _) _⟩
      exact ret_cell2 (fn := Try.f14) rfl _ _ w.heap.size 33 _ _ (.bool false) rfl rfl (z2.set _) Try.underlying33 rfl (by rw [size33, hs0])
set_option maxRecDepth 20000 in
set_option maxHeartbeats 8000000 in
theorem rdec_5 (s : ByteArray) (w : World) (hs : s.size ≤ maxLen) (h0 : 0 < s.size) (hk : byteAt s 0 = 5) :
    Calls Try.prog 14 #[.string s] w fun e w' => e = .returned (.tuple #[.agg (gotR s).arr, .bool (decR s).isSome]) ∧ Below w.heap.size w w' := by
  have hz := zero33
  have hs0 := R.arr_size R.zero (zs_length _)
  obtain ⟨a, ha⟩ : ∃ x, getN s 1 2 = x := ⟨_, rfl⟩
  have ba := getN2 s 1
  have HAa : Hid _ := fun w => at_any s 1 2 w hs (by decide) (by decide)
  rw [ha] at ba HAa
  have ma : a % 65536 = a := by omega
  obtain ⟨l, hl⟩ : ∃ x, getN s 3 1 = x := ⟨_, rfl⟩
  have bl := getN1 s 3
  have HAl : Hid _ := fun w => at_any s 3 1 w hs (by decide) (by decide)
  rw [hl] at bl HAl
  have ml : l % 256 = l := by omega
  have HL : Hid (loR s = { R.zero with kind := 5, undo := true, no := a, slot := l }) := by
    show _ = _
    unfold loR
    rw [hk]
    rw [if_neg (by decide), if_neg (by decide), if_neg (by decide), if_neg (by decide), if_pos rfl]; unfold lo45; rw [ha, hl]
  have HFT : R.Fits { R.zero with kind := 5, undo := true, no := a, slot := l } := by rw [← HL.out]; exact by rw [show loR s = lo45 5 s by unfold loR; rw [hk]; rfl]; exact lo45_fits 5 s (by decide)
  rw [byteAt_in s 0 h0] at hk
  have hx : ((s[0]'h0).toNat : Int) = 5 := hk
  have hxn : (s[0]'h0).toNat = 5 := by omega
  clear hk
  have h0i : (0 : Int) < (s.size : Int) := by omega
  obtain ⟨hn1, hn2⟩ := str_ne s h0
  have x2 : Row (w.alloc (.cells R.zero.arr 33)) w.heap.size R.zero.arr 33 := Row.new _ _ _
  have xb : Below w.heap.size w (w.alloc (.cells R.zero.arr 33)) := (Below.refl _ _).alloc (Nat.le_refl _) _
  go_enter Try.func14, Try.ntmps14
  go_upto_region 1 with fail
  generalize w.alloc (.cells R.zero.arr 33) = w1 at x2 xb ⊢
  have q2 := x2.alloc (.cells R.zero.arr 33)
  have q4 : Row (w1.alloc (.cells R.zero.arr 33)) w1.heap.size R.zero.arr 33 := Row.new _ _ _
  have qb := xb.alloc xb.size (.cells R.zero.arr 33)
  have hg4 := x2.lt
  go_upto_region 4 with (first
    | (refine build_parts rfl 33 #[(0, .tmp 13)] rfl [(0, .int .u8 5)] rfl _ (built33one 5) ?_)
    | (refine store_cells rfl 33 (.tmp 4) (.tmp 14) rfl w1.heap.size (R.arr { R.zero with kind := 5 }) rfl rfl 33 _ q4 238 size33 hs0 (R.arr_size _ (zs_length _)) (R.arr_one _) ?_))
  have x2_0 := q2.other (g := w1.heap.size) (by omega) (R.arr { R.zero with kind := 5 })
  have x4_0 := q4.set (R.arr { R.zero with kind := 5 })
  have xb_0 := below_setRow qb (Nat.le_of_lt hg4) (R.arr { R.zero with kind := 5 })
  clear x2 xb q2 q4 qb
  generalize (w1.alloc (.cells R.zero.arr 33)).setRow w1.heap.size (R.arr { R.zero with kind := 5 }) = W0 at x2_0 x4_0 xb_0 ⊢
  generalize w1.heap.size = g4 at x4_0 hg4 ⊢
  have k0 := row_at x4_0 0 _ (R.at0 _)
  go_upto_region 23 with fail
  clear k0
  have e1 := row_at x4_0 1 _ (R.at1 _)
  have f1 := row_frozen x4_0 1
  have e2 := row_at x4_0 2 _ (R.at2 _)
  have f2 := row_frozen x4_0 2
  go_upto_region 24 with (first
    | (go_at_call 25; refine (HAa.out _).mono ?_; clear HAa; rintro e wa ⟨he, hww⟩; rw [hww]; clear hww wa; obtain rfl := he)
    | (refine build_parts rfl 24 #[(0, .const (.bool true)), (1, .tmp 100)] rfl [(0, .bool true), (1, .int .u16 a)] rfl _ (built24two _ _) ?_))
  have x4_1 := (row_set (row_set x4_0 1 (.bool true)) 2 (.int .u16 a))
  rw [R.set12] at x4_1
  simp only at x4_1
  have x2_1 := (row_setCell_other (row_setCell_other x2_0 (g := g4) (by omega) 1 (.bool true)) (g := g4) (by omega) 2 (.int .u16 a))
  have xb_1 := ((((xb_0).setCell (p := ⟨g4, 1, none⟩) (by show w.heap.size ≤ g4; omega) (.bool true))).setCell (p := ⟨g4, 2, none⟩) (by show w.heap.size ≤ g4; omega) (.int .u16 a))
  clear x4_0 x2_0 xb_0 e1 f1 e2 f2
  generalize ((W0.setCell ⟨g4, 1, none⟩ (.bool true)).setCell ⟨g4, 2, none⟩ (.int .u16 a)) = W1 at x4_1 x2_1 xb_1 ⊢
  have e231 := row_at x4_1 231 _ (R.atT _ (zs_length _) 4)
  have f231 := row_frozen x4_1 231
  go_upto_region 27 with (first
    | (go_at_call 25; refine (HAl.out _).mono ?_; clear HAl; rintro e wa ⟨he, hww⟩; rw [hww]; clear hww wa; obtain rfl := he))
  have x4_2 := (row_set x4_1 231 (.int .u8 l))
  rw [R.set231 _ (zs_length _)] at x4_2
  simp only at x4_2
  have x2_2 := (row_setCell_other x2_1 (g := g4) (by omega) 231 (.int .u8 l))
  have xb_2 := ((xb_1).setCell (p := ⟨g4, 231, none⟩) (by show w.heap.size ≤ g4; omega) (.int .u8 l))
  clear x4_1 x2_1 xb_1 e231 f231
  generalize (W1.setCell ⟨g4, 231, none⟩ (.int .u8 l)) = W2 at x4_2 x2_2 xb_2 ⊢
  obtain ⟨r, hr⟩ : ∃ r : R, Hid ({ R.zero with kind := 5, undo := true, no := a, slot := l } = r) := ⟨_, rfl⟩
  have y4 : Row W2 g4 r.arr 33 := by rw [← hr.out]; exact x4_2
  have HF : r.Fits := by rw [← hr.out]; exact HFT
  have HD : Hid (decR s = if mayR r = true ∧ encS r = s then some r else none) := by show _ = _; rw [← hr.out]; exact by have q := lo_dec s; rw [HL.out] at q; exact q HFT
  have y2 := x2_2
  have yb := xb_2
  clear x4_2 x2_2 xb_2 hr
  have hsr := R.arr_size r HF.len
  have HE : Hid _ := fun w => renc_any r w HF
  cases hm : mayR r with
  | false =>
    rw [hm] at HE
    have hdn : decR s = none := by rw [HD.out, if_neg (by rw [hm]; simp)]
    have HG : Hid (gotR s = R.zero) := by show _ = _; unfold gotR; rw [hdn]; rfl
    have HI : Hid ((decR s).isSome = false) := by show _ = _; rw [hdn]; rfl
    clear hdn HD hm
    generalize encS r = sr at *
    go_upto_region 29 with (first
      | (refine load_cells rfl 33 (.tmp 4) rfl g4 rfl 33 r.arr y4 238 Try.underlying33 rfl size33 hsr ?_)
      | (go_at_call 10; refine (HE.out _).mono ?_; clear HE; rintro e w5 ⟨rfl, h5⟩; have z2 := y2.below h5 y2.lt; have z4 := y4.below h5 y4.lt; have zb := yb.trans (h5.mono yb.size)))
    go_wp2_with (first
      | (refine build_parts rfl 33 #[] rfl [] rfl _ built33 ?_)
      | (refine store_cells rfl 33 (.tmp 2) (.tmp 125) rfl w.heap.size R.zero.arr rfl rfl 33 _ z2 238 size33 hs0 hs0 (R.arr_one _) ?_))
    refine bodyPost_ret (v := .tuple #[.agg R.zero.arr, .bool false]) ?_ rfl ⟨by rw [HG.out, HI.out], below_setRow zb (Nat.le_refl _) _⟩
    exact ret_cell2 (fn := Try.f14) rfl _ _ w.heap.size 33 _ _ (.bool false) rfl rfl (z2.set _) Try.underlying33 rfl (by rw [size33, hs0])
  | true =>
    rw [hm] at HE
    by_cases he : encS r = s
    · rw [he] at HE
      have hdn : decR s = some r := by rw [HD.out, if_pos ⟨hm, he⟩]
      have HG : Hid (gotR s = r) := by show _ = _; unfold gotR; rw [hdn]; rfl
      have HI : Hid ((decR s).isSome = true) := by show _ = _; rw [hdn]; rfl
      clear hdn HD hm he
      go_upto_region 30 with (first
        | (refine load_cells rfl 33 (.tmp 4) rfl g4 rfl 33 r.arr y4 238 Try.underlying33 rfl size33 hsr ?_)
        | (go_at_call 10; refine (HE.out _).mono ?_; clear HE; rintro e w5 ⟨rfl, h5⟩; have z2 := y2.below h5 y2.lt; have z4 := y4.below h5 y4.lt; have zb := yb.trans (h5.mono yb.size)))
      go_wp2_with (first
        | (refine load_cells rfl 33 (.tmp 4) rfl g4 rfl 33 r.arr z4 238 Try.underlying33 rfl size33 hsr ?_)
        | (refine store_cells rfl 33 (.tmp 2) (.tmp 126) rfl w.heap.size r.arr rfl rfl 33 _ z2 238 size33 hs0 hsr (R.arr_one _) ?_))
      refine bodyPost_ret (v := .tuple #[.agg r.arr, .bool true]) ?_ rfl ⟨by rw [HG.out, HI.out], below_setRow zb (Nat.le_refl _) _⟩
      exact ret_cell2 (fn := Try.f14) rfl _ _ w.heap.size 33 _ _ (.bool true) rfl rfl (z2.set _) Try.underlying33 rfl (by rw [size33, hsr])
    · have hq0 : ¬ (encS r).toList = s.toList := fun z => he (bytes_inj z)
      have hq' : ((encS r).toList == s.toList) = false := by simpa using hq0
      have hdn : decR s = none := by rw [HD.out, if_neg (by rintro ⟨_, z⟩; exact he z)]
      have HG : Hid (gotR s = R.zero) := by show _ = _; unfold gotR; rw [hdn]; rfl
      have HI : Hid ((decR s).isSome = false) := by show _ = _; rw [hdn]; rfl
      clear hdn HD hm he
      generalize encS r = sr at HE hq0 hq'
      go_upto_region 29 with (first
        | (refine load_cells rfl 33 (.tmp 4) rfl g4 rfl 33 r.arr y4 238 Try.underlying33 rfl size33 hsr ?_)
        | (go_at_call 10; refine (HE.out _).mono ?_; clear HE; rintro e w5 ⟨rfl, h5⟩; have z2 := y2.below h5 y2.lt; have z4 := y4.below h5 y4.lt; have zb := yb.trans (h5.mono yb.size)))
      go_wp2_with (first
        | (refine build_parts rfl 33 #[] rfl [] rfl _ built33 ?_)
        | (refine store_cells rfl 33 (.tmp 2) (.tmp 125) rfl w.heap.size R.zero.arr rfl rfl 33 _ z2 238 size33 hs0 hs0 (R.arr_one _) ?_))
      refine bodyPost_ret (v := .tuple #[.agg R.zero.arr, .bool false]) ?_ rfl ⟨by rw [HG.out, HI.out], below_setRow zb (Nat.le_refl _) _⟩
      exact ret_cell2 (fn := Try.f14) rfl _ _ w.heap.size 33 _ _ (.bool false) rfl rfl (z2.set _) Try.underlying33 rfl (by rw [size33, hs0])
set_option maxRecDepth 20000 in
set_option maxHeartbeats 8000000 in
theorem rdec_6 (s : ByteArray) (w : World) (hs : s.size ≤ maxLen) (h0 : 0 < s.size) (hk : byteAt s 0 = 6) :
    Calls Try.prog 14 #[.string s] w fun e w' => e = .returned (.tuple #[.agg (gotR s).arr, .bool (decR s).isSome]) ∧ Below w.heap.size w w' := by
  have hz := zero33
  have hs0 := R.arr_size R.zero (zs_length _)
  obtain ⟨t, ht⟩ : ∃ x, getN s 1 4 = x := ⟨_, rfl⟩
  have bt := getN4 s 1
  have HAt : Hid _ := fun w => at_any s 1 4 w hs (by decide) (by decide)
  rw [ht] at bt HAt
  have mt : t % 4294967296 = t := by omega
  have HL : Hid (loR s = { R.zero with kind := 6, ts := t }) := by
    show _ = _
    unfold loR
    rw [hk]
    rw [if_neg (by decide), if_neg (by decide), if_neg (by decide), if_neg (by decide), if_neg (by decide), if_pos rfl]; unfold lo6; rw [ht]
  have HFT : R.Fits { R.zero with kind := 6, ts := t } := by rw [← HL.out]; exact by rw [show loR s = lo6 s by unfold loR; rw [hk]; rfl]; exact lo6_fits s
  rw [byteAt_in s 0 h0] at hk
  have hx : ((s[0]'h0).toNat : Int) = 6 := hk
  have hxn : (s[0]'h0).toNat = 6 := by omega
  clear hk
  have h0i : (0 : Int) < (s.size : Int) := by omega
  obtain ⟨hn1, hn2⟩ := str_ne s h0
  have x2 : Row (w.alloc (.cells R.zero.arr 33)) w.heap.size R.zero.arr 33 := Row.new _ _ _
  have xb : Below w.heap.size w (w.alloc (.cells R.zero.arr 33)) := (Below.refl _ _).alloc (Nat.le_refl _) _
  go_enter Try.func14, Try.ntmps14
  go_upto_region 1 with fail
  generalize w.alloc (.cells R.zero.arr 33) = w1 at x2 xb ⊢
  have q2 := x2.alloc (.cells R.zero.arr 33)
  have q4 : Row (w1.alloc (.cells R.zero.arr 33)) w1.heap.size R.zero.arr 33 := Row.new _ _ _
  have qb := xb.alloc xb.size (.cells R.zero.arr 33)
  have hg4 := x2.lt
  go_upto_region 4 with (first
    | (refine build_parts rfl 33 #[(0, .tmp 13)] rfl [(0, .int .u8 6)] rfl _ (built33one 6) ?_)
    | (refine store_cells rfl 33 (.tmp 4) (.tmp 14) rfl w1.heap.size (R.arr { R.zero with kind := 6 }) rfl rfl 33 _ q4 238 size33 hs0 (R.arr_size _ (zs_length _)) (R.arr_one _) ?_))
  have x2_0 := q2.other (g := w1.heap.size) (by omega) (R.arr { R.zero with kind := 6 })
  have x4_0 := q4.set (R.arr { R.zero with kind := 6 })
  have xb_0 := below_setRow qb (Nat.le_of_lt hg4) (R.arr { R.zero with kind := 6 })
  clear x2 xb q2 q4 qb
  generalize (w1.alloc (.cells R.zero.arr 33)).setRow w1.heap.size (R.arr { R.zero with kind := 6 }) = W0 at x2_0 x4_0 xb_0 ⊢
  generalize w1.heap.size = g4 at x4_0 hg4 ⊢
  have k0 := row_at x4_0 0 _ (R.at0 _)
  go_upto_region 26 with fail
  clear k0
  have e227 := row_at x4_0 227 _ (R.atT _ (zs_length _) 0)
  have f227 := row_frozen x4_0 227
  go_upto_region 27 with (first
    | (go_at_call 25; refine (HAt.out _).mono ?_; clear HAt; rintro e wa ⟨he, hww⟩; rw [hww]; clear hww wa; obtain rfl := he))
  have x4_1 := (row_set x4_0 227 (.int .u32 t))
  rw [R.set227 _ (zs_length _)] at x4_1
  simp only at x4_1
  have x2_1 := (row_setCell_other x2_0 (g := g4) (by omega) 227 (.int .u32 t))
  have xb_1 := ((xb_0).setCell (p := ⟨g4, 227, none⟩) (by show w.heap.size ≤ g4; omega) (.int .u32 t))
  clear x4_0 x2_0 xb_0 e227 f227
  generalize (W0.setCell ⟨g4, 227, none⟩ (.int .u32 t)) = W1 at x4_1 x2_1 xb_1 ⊢
  obtain ⟨r, hr⟩ : ∃ r : R, Hid ({ R.zero with kind := 6, ts := t } = r) := ⟨_, rfl⟩
  have y4 : Row W1 g4 r.arr 33 := by rw [← hr.out]; exact x4_1
  have HF : r.Fits := by rw [← hr.out]; exact HFT
  have HD : Hid (decR s = if mayR r = true ∧ encS r = s then some r else none) := by show _ = _; rw [← hr.out]; exact by have q := lo_dec s; rw [HL.out] at q; exact q HFT
  have y2 := x2_1
  have yb := xb_1
  clear x4_1 x2_1 xb_1 hr
  have hsr := R.arr_size r HF.len
  have HE : Hid _ := fun w => renc_any r w HF
  cases hm : mayR r with
  | false =>
    rw [hm] at HE
    have hdn : decR s = none := by rw [HD.out, if_neg (by rw [hm]; simp)]
    have HG : Hid (gotR s = R.zero) := by show _ = _; unfold gotR; rw [hdn]; rfl
    have HI : Hid ((decR s).isSome = false) := by show _ = _; rw [hdn]; rfl
    clear hdn HD hm
    generalize encS r = sr at *
    go_upto_region 29 with (first
      | (refine load_cells rfl 33 (.tmp 4) rfl g4 rfl 33 r.arr y4 238 Try.underlying33 rfl size33 hsr ?_)
      | (go_at_call 10; refine (HE.out _).mono ?_; clear HE; rintro e w5 ⟨rfl, h5⟩; have z2 := y2.below h5 y2.lt; have z4 := y4.below h5 y4.lt; have zb := yb.trans (h5.mono yb.size)))
    go_wp2_with (first
      | (refine build_parts rfl 33 #[] rfl [] rfl _ built33 ?_)
      | (refine store_cells rfl 33 (.tmp 2) (.tmp 125) rfl w.heap.size R.zero.arr rfl rfl 33 _ z2 238 size33 hs0 hs0 (R.arr_one _) ?_))
    refine bodyPost_ret (v := .tuple #[.agg R.zero.arr, .bool false]) ?_ rfl ⟨by rw [HG.out, HI.out], below_setRow zb (Nat.le_refl _) _⟩
    exact ret_cell2 (fn := Try.f14) rfl _ _ w.heap.size 33 _ _ (.bool false) rfl rfl (z2.set _) Try.underlying33 rfl (by rw [size33, hs0])
  | true =>
    rw [hm] at HE
    by_cases he : encS r = s
    · rw [he] at HE
      have hdn : decR s = some r := by rw [HD.out, if_pos ⟨hm, he⟩]
      have HG : Hid (gotR s = r) := by show _ = _; unfold gotR; rw [hdn]; rfl
      have HI : Hid ((decR s).isSome = true) := by show _ = _; rw [hdn]; rfl
      clear hdn HD hm he
      go_upto_region 30 with (first
        | (refine load_cells rfl 33 (.tmp 4) rfl g4 rfl 33 r.arr y4 238 Try.underlying33 rfl size33 hsr ?_)
        | (go_at_call 10; refine (HE.out _).mono ?_; clear HE; rintro e w5 ⟨rfl, h5⟩; have z2 := y2.below h5 y2.lt; have z4 := y4.below h5 y4.lt; have zb := yb.trans (h5.mono yb.size)))
      go_wp2_with (first
        | (refine load_cells rfl 33 (.tmp 4) rfl g4 rfl 33 r.arr z4 238 Try.underlying33 rfl size33 hsr ?_)
        | (refine store_cells rfl 33 (.tmp 2) (.tmp 126) rfl w.heap.size r.arr rfl rfl 33 _ z2 238 size33 hs0 hsr (R.arr_one _) ?_))
      refine bodyPost_ret (v := .tuple #[.agg r.arr, .bool true]) ?_ rfl ⟨by rw [HG.out, HI.out], below_setRow zb (Nat.le_refl _) _⟩
      exact ret_cell2 (fn := Try.f14) rfl _ _ w.heap.size 33 _ _ (.bool true) rfl rfl (z2.set _) Try.underlying33 rfl (by rw [size33, hsr])
    · have hq0 : ¬ (encS r).toList = s.toList := fun z => he (bytes_inj z)
      have hq' : ((encS r).toList == s.toList) = false := by simpa using hq0
      have hdn : decR s = none := by rw [HD.out, if_neg (by rintro ⟨_, z⟩; exact he z)]
      have HG : Hid (gotR s = R.zero) := by show _ = _; unfold gotR; rw [hdn]; rfl
      have HI : Hid ((decR s).isSome = false) := by show _ = _; rw [hdn]; rfl
      clear hdn HD hm he
      generalize encS r = sr at HE hq0 hq'
      go_upto_region 29 with (first
        | (refine load_cells rfl 33 (.tmp 4) rfl g4 rfl 33 r.arr y4 238 Try.underlying33 rfl size33 hsr ?_)
        | (go_at_call 10; refine (HE.out _).mono ?_; clear HE; rintro e w5 ⟨rfl, h5⟩; have z2 := y2.below h5 y2.lt; have z4 := y4.below h5 y4.lt; have zb := yb.trans (h5.mono yb.size)))
      go_wp2_with (first
        | (refine build_parts rfl 33 #[] rfl [] rfl _ built33 ?_)
        | (refine store_cells rfl 33 (.tmp 2) (.tmp 125) rfl w.heap.size R.zero.arr rfl rfl 33 _ z2 238 size33 hs0 hs0 (R.arr_one _) ?_))
      refine bodyPost_ret (v := .tuple #[.agg R.zero.arr, .bool false]) ?_ rfl ⟨by rw [HG.out, HI.out], below_setRow zb (Nat.le_refl _) _⟩
      exact ret_cell2 (fn := Try.f14) rfl _ _ w.heap.size 33 _ _ (.bool false) rfl rfl (z2.set _) Try.underlying33 rfl (by rw [size33, hs0])
set_option maxRecDepth 20000 in
set_option maxHeartbeats 8000000 in
theorem rdec_0 (s : ByteArray) (w : World) (hs : s.size ≤ maxLen) (h0 : 0 < s.size) (hk : byteAt s 0 < 1 ∨ 6 < byteAt s 0) :
    Calls Try.prog 14 #[.string s] w fun e w' => e = .returned (.tuple #[.agg (gotR s).arr, .bool (decR s).isSome]) ∧ Below w.heap.size w w' := by
  have hz := zero33
  have hs0 := R.arr_size R.zero (zs_length _)
  have bk := byteAt_fits s 0
  obtain ⟨k, hkk⟩ : ∃ k, byteAt s 0 = k := ⟨_, rfl⟩
  rw [hkk] at hk bk
  have HL : Hid (loR s = { R.zero with kind := k }) := by
    show _ = _
    unfold loR
    rw [hkk, if_neg (by omega), if_neg (by omega), if_neg (by omega), if_neg (by omega), if_neg (by omega), if_neg (by omega)]
  have HFT : R.Fits { R.zero with kind := k } := loK_fits k bk
  rw [byteAt_in s 0 h0] at hkk
  have hx := hkk
  have n1 : (k == 1) = false := beq_eq_false_iff_ne.2 (by omega)
  have n2 : (k == 2) = false := beq_eq_false_iff_ne.2 (by omega)
  have n3 : (k == 3) = false := beq_eq_false_iff_ne.2 (by omega)
  have n4 : (k == 4) = false := beq_eq_false_iff_ne.2 (by omega)
  have n5 : (k == 5) = false := beq_eq_false_iff_ne.2 (by omega)
  have n6 : (k == 6) = false := beq_eq_false_iff_ne.2 (by omega)
  clear hkk hk
  have h0i : (0 : Int) < (s.size : Int) := by omega
  obtain ⟨hn1, hn2⟩ := str_ne s h0
  have x2 : Row (w.alloc (.cells R.zero.arr 33)) w.heap.size R.zero.arr 33 := Row.new _ _ _
  have xb : Below w.heap.size w (w.alloc (.cells R.zero.arr 33)) := (Below.refl _ _).alloc (Nat.le_refl _) _
  go_enter Try.func14, Try.ntmps14
  go_upto_region 1 with fail
  generalize w.alloc (.cells R.zero.arr 33) = w1 at x2 xb ⊢
  have q2 := x2.alloc (.cells R.zero.arr 33)
  have q4 : Row (w1.alloc (.cells R.zero.arr 33)) w1.heap.size R.zero.arr 33 := Row.new _ _ _
  have qb := xb.alloc xb.size (.cells R.zero.arr 33)
  have hg4 := x2.lt
  go_upto_region 4 with (first
    | (refine build_parts rfl 33 #[(0, .tmp 13)] rfl [(0, .int .u8 k)] rfl _ (built33one k) ?_)
    | (refine store_cells rfl 33 (.tmp 4) (.tmp 14) rfl w1.heap.size (R.arr { R.zero with kind := k }) rfl rfl 33 _ q4 238 size33 hs0 (R.arr_size _ (zs_length _)) (R.arr_one _) ?_))
  have x2_0 := q2.other (g := w1.heap.size) (by omega) (R.arr { R.zero with kind := k })
  have x4_0 := q4.set (R.arr { R.zero with kind := k })
  have xb_0 := below_setRow qb (Nat.le_of_lt hg4) (R.arr { R.zero with kind := k })
  clear x2 xb q2 q4 qb
  generalize (w1.alloc (.cells R.zero.arr 33)).setRow w1.heap.size (R.arr { R.zero with kind := k }) = W0 at x2_0 x4_0 xb_0 ⊢
  generalize w1.heap.size = g4 at x4_0 hg4 ⊢
  have k0 := row_at x4_0 0 _ (R.at0 _)
  go_upto_region 27 with fail
  clear k0
  obtain ⟨r, hr⟩ : ∃ r : R, Hid ({ R.zero with kind := k } = r) := ⟨_, rfl⟩
  have y4 : Row W0 g4 r.arr 33 := by rw [← hr.out]; exact x4_0
  have HF : r.Fits := by rw [← hr.out]; exact HFT
  have HD : Hid (decR s = if mayR r = true ∧ encS r = s then some r else none) := by show _ = _; rw [← hr.out]; exact by have q := lo_dec s; rw [HL.out] at q; exact q HFT
  have y2 := x2_0
  have yb := xb_0
  clear x4_0 x2_0 xb_0 hr
  have hsr := R.arr_size r HF.len
  have HE : Hid _ := fun w => renc_any r w HF
  cases hm : mayR r with
  | false =>
    rw [hm] at HE
    have hdn : decR s = none := by rw [HD.out, if_neg (by rw [hm]; simp)]
    have HG : Hid (gotR s = R.zero) := by show _ = _; unfold gotR; rw [hdn]; rfl
    have HI : Hid ((decR s).isSome = false) := by show _ = _; rw [hdn]; rfl
    clear hdn HD hm
    generalize encS r = sr at *
    go_upto_region 29 with (first
      | (refine load_cells rfl 33 (.tmp 4) rfl g4 rfl 33 r.arr y4 238 Try.underlying33 rfl size33 hsr ?_)
      | (go_at_call 10; refine (HE.out _).mono ?_; clear HE; rintro e w5 ⟨rfl, h5⟩; have z2 := y2.below h5 y2.lt; have z4 := y4.below h5 y4.lt; have zb := yb.trans (h5.mono yb.size)))
    go_wp2_with (first
      | (refine build_parts rfl 33 #[] rfl [] rfl _ built33 ?_)
      | (refine store_cells rfl 33 (.tmp 2) (.tmp 125) rfl w.heap.size R.zero.arr rfl rfl 33 _ z2 238 size33 hs0 hs0 (R.arr_one _) ?_))
    refine bodyPost_ret (v := .tuple #[.agg R.zero.arr, .bool false]) ?_ rfl ⟨by rw [HG.out, HI.out], below_setRow zb (Nat.le_refl _) _⟩
    exact ret_cell2 (fn := Try.f14) rfl _ _ w.heap.size 33 _ _ (.bool false) rfl rfl (z2.set _) Try.underlying33 rfl (by rw [size33, hs0])
  | true =>
    rw [hm] at HE
    by_cases he : encS r = s
    · rw [he] at HE
      have hdn : decR s = some r := by rw [HD.out, if_pos ⟨hm, he⟩]
      have HG : Hid (gotR s = r) := by show _ = _; unfold gotR; rw [hdn]; rfl
      have HI : Hid ((decR s).isSome = true) := by show _ = _; rw [hdn]; rfl
      clear hdn HD hm he
      go_upto_region 30 with (first
        | (refine load_cells rfl 33 (.tmp 4) rfl g4 rfl 33 r.arr y4 238 Try.underlying33 rfl size33 hsr ?_)
        | (go_at_call 10; refine (HE.out _).mono ?_; clear HE; rintro e w5 ⟨rfl, h5⟩; have z2 := y2.below h5 y2.lt; have z4 := y4.below h5 y4.lt; have zb := yb.trans (h5.mono yb.size)))
      go_wp2_with (first
        | (refine load_cells rfl 33 (.tmp 4) rfl g4 rfl 33 r.arr z4 238 Try.underlying33 rfl size33 hsr ?_)
        | (refine store_cells rfl 33 (.tmp 2) (.tmp 126) rfl w.heap.size r.arr rfl rfl 33 _ z2 238 size33 hs0 hsr (R.arr_one _) ?_))
      refine bodyPost_ret (v := .tuple #[.agg r.arr, .bool true]) ?_ rfl ⟨by rw [HG.out, HI.out], below_setRow zb (Nat.le_refl _) _⟩
      exact ret_cell2 (fn := Try.f14) rfl _ _ w.heap.size 33 _ _ (.bool true) rfl rfl (z2.set _) Try.underlying33 rfl (by rw [size33, hsr])
    · have hq0 : ¬ (encS r).toList = s.toList := fun z => he (bytes_inj z)
      have hq' : ((encS r).toList == s.toList) = false := by simpa using hq0
      have hdn : decR s = none := by rw [HD.out, if_neg (by rintro ⟨_, z⟩; exact he z)]
      have HG : Hid (gotR s = R.zero) := by show _ = _; unfold gotR; rw [hdn]; rfl
      have HI : Hid ((decR s).isSome = false) := by show _ = _; rw [hdn]; rfl
      clear hdn HD hm he
      generalize encS r = sr at HE hq0 hq'
      go_upto_region 29 with (first
        | (refine load_cells rfl 33 (.tmp 4) rfl g4 rfl 33 r.arr y4 238 Try.underlying33 rfl size33 hsr ?_)
        | (go_at_call 10; refine (HE.out _).mono ?_; clear HE; rintro e w5 ⟨rfl, h5⟩; have z2 := y2.below h5 y2.lt; have z4 := y4.below h5 y4.lt; have zb := yb.trans (h5.mono yb.size)))
      go_wp2_with (first
        | (refine build_parts rfl 33 #[] rfl [] rfl _ built33 ?_)
        | (refine store_cells rfl 33 (.tmp 2) (.tmp 125) rfl w.heap.size R.zero.arr rfl rfl 33 _ z2 238 size33 hs0 hs0 (R.arr_one _) ?_))
      refine bodyPost_ret (v := .tuple #[.agg R.zero.arr, .bool false]) ?_ rfl ⟨by rw [HG.out, HI.out], below_setRow zb (Nat.le_refl _) _⟩
      exact ret_cell2 (fn := Try.f14) rfl _ _ w.heap.size 33 _ _ (.bool false) rfl rfl (z2.set _) Try.underlying33 rfl (by rw [size33, hs0])
set_option maxRecDepth 20000 in
set_option maxHeartbeats 8000000 in
theorem rdec_1 (s : ByteArray) (w : World) (hs : s.size ≤ maxLen) (h0 : 0 < s.size) (hk : byteAt s 0 = 1) :
    Calls Try.prog 14 #[.string s] w fun e w' => e = .returned (.tuple #[.agg (gotR s).arr, .bool (decR s).isSome]) ∧ Below w.heap.size w w' := by
  have hz := zero33
  have hs0 := R.arr_size R.zero (zs_length _)
  obtain ⟨x, hx⟩ : ∃ x, getN s 1 1 = x := ⟨_, rfl⟩
  have bx := getN1 s 1
  have HAx : Hid _ := fun w => at_any s 1 1 w hs (by decide) (by decide)
  rw [hx] at bx HAx
  have mx : x % 256 = x := by omega
  obtain ⟨a, ha⟩ : ∃ x, getN s 2 2 = x := ⟨_, rfl⟩
  have ba := getN2 s 2
  have HAa : Hid _ := fun w => at_any s 2 2 w hs (by decide) (by decide)
  rw [ha] at ba HAa
  have ma : a % 65536 = a := by omega
  obtain ⟨d, hd⟩ : ∃ x, fromS s 5 = x := ⟨_, rfl⟩
  have HAd : Hid _ := fun w => from_any s 5 w hs (by decide)
  rw [hd] at HAd
  obtain ⟨u, hu⟩ : ∃ u, decide (x = 1) = u := ⟨_, rfl⟩
  have hu2 : (x == (1 : Int)) = u := by rw [← hu]; by_cases q : x = 1 <;> simp [q]
  have HL : Hid (loR s = { R.zero with kind := 1, undo := u, no := a, img := loI d }) := by
    show _ = _
    unfold loR
    rw [hk]
    rw [if_pos rfl]; unfold lo1; rw [hx, ha, hd, hu]
  have HFT : R.Fits { R.zero with kind := 1, undo := u, no := a, img := loI d } := by rw [← HL.out]; exact by rw [show loR s = lo1 s by unfold loR; rw [hk]; rfl]; exact lo1_fits s
  have hds : d.size ≤ maxLen := by rw [← hd]; exact Nat.le_trans (fromS_size s 5) hs
  have hx11 := hx
  rw [byteAt_in s 0 h0] at hk
  have hxx : ((s[0]'h0).toNat : Int) = 1 := hk
  have hxn : (s[0]'h0).toNat = 1 := by omega
  clear hk
  have h0i : (0 : Int) < (s.size : Int) := by omega
  obtain ⟨hn1, hn2⟩ := str_ne s h0
  have x2 : Row (w.alloc (.cells R.zero.arr 33)) w.heap.size R.zero.arr 33 := Row.new _ _ _
  have xb : Below w.heap.size w (w.alloc (.cells R.zero.arr 33)) := (Below.refl _ _).alloc (Nat.le_refl _) _
  go_enter Try.func14, Try.ntmps14
  go_upto_region 1 with fail
  generalize w.alloc (.cells R.zero.arr 33) = w1 at x2 xb ⊢
  have q2 := x2.alloc (.cells R.zero.arr 33)
  have q4 : Row (w1.alloc (.cells R.zero.arr 33)) w1.heap.size R.zero.arr 33 := Row.new _ _ _
  have qb := xb.alloc xb.size (.cells R.zero.arr 33)
  have hg4 := x2.lt
  go_upto_region 4 with (first
    | (refine build_parts rfl 33 #[(0, .tmp 13)] rfl [(0, .int .u8 1)] rfl _ (built33one 1) ?_)
    | (refine store_cells rfl 33 (.tmp 4) (.tmp 14) rfl w1.heap.size (R.arr { R.zero with kind := 1 }) rfl rfl 33 _ q4 238 size33 hs0 (R.arr_size _ (zs_length _)) (R.arr_one _) ?_))
  have x2_0 := q2.other (g := w1.heap.size) (by omega) (R.arr { R.zero with kind := 1 })
  have x4_0 := q4.set (R.arr { R.zero with kind := 1 })
  have xb_0 := below_setRow qb (Nat.le_of_lt hg4) (R.arr { R.zero with kind := 1 })
  clear x2 xb q2 q4 qb
  generalize (w1.alloc (.cells R.zero.arr 33)).setRow w1.heap.size (R.arr { R.zero with kind := 1 }) = W0 at x2_0 x4_0 xb_0 ⊢
  generalize w1.heap.size = g4 at x4_0 hg4 ⊢
  have k0 := row_at x4_0 0 _ (R.at0 _)
  go_upto_region 6 with fail
  clear k0
  have e1 := row_at x4_0 1 _ (R.at1 _)
  have f1 := row_frozen x4_0 1
  have e2 := row_at x4_0 2 _ (R.at2 _)
  have f2 := row_frozen x4_0 2
  go_upto_region 7 with (first
    | (go_at_call 25; refine (HAx.out _).mono ?_; clear HAx; rintro e wa ⟨he, hww⟩; rw [hww]; clear hww wa; obtain rfl := he)
    | (go_at_call 25; refine (HAa.out _).mono ?_; clear HAa; rintro e wa ⟨he, hww⟩; rw [hww]; clear hww wa; obtain rfl := he)
    | (refine build_parts rfl 24 #[(0, .tmp 21), (1, .tmp 24)] rfl [(0, .bool u), (1, .int .u16 a)] rfl _ (built24two _ _) ?_))
  have x4_1 := (row_set (row_set x4_0 1 (.bool u)) 2 (.int .u16 a))
  rw [R.set12] at x4_1
  simp only at x4_1
  have x2_1 := (row_setCell_other (row_setCell_other x2_0 (g := g4) (by omega) 1 (.bool u)) (g := g4) (by omega) 2 (.int .u16 a))
  have xb_1 := ((((xb_0).setCell (p := ⟨g4, 1, none⟩) (by show w.heap.size ≤ g4; omega) (.bool u))).setCell (p := ⟨g4, 2, none⟩) (by show w.heap.size ≤ g4; omega) (.int .u16 a))
  clear x4_0 x2_0 xb_0 e1 f1 e2 f2
  generalize ((W0.setCell ⟨g4, 1, none⟩ (.bool u)).setCell ⟨g4, 2, none⟩ (.int .u16 a)) = W1 at x4_1 x2_1 xb_1 ⊢
  clear hu hu2 hx hx11 hxx hxn
  unfold maxLen at hds
  obtain ⟨f, Hf⟩ : ∃ f : Nat → Int, Hid (f = fun j => byteAt d j) := ⟨_, rfl⟩
  go_upto_region 8 with (first
    | (go_at_call 26; refine (HAd.out _).mono ?_; clear HAd; rintro e wa ⟨he, hww⟩; rw [hww]; clear hww wa; obtain rfl := he))
  go_wp2
  go_loopw [6] (fun i wr => ∃ k : Nat, k ≤ 224 ∧ k ≤ d.size ∧ i = .int .i64 k ∧ Row wr g4 (R.arr { R.zero with kind := 1, undo := u, no := a, img := upto 224 f k }) 33 ∧ Row wr w.heap.size R.zero.arr 33 ∧ Below w.heap.size w wr) (fun i _ => 224 - (intOf i).toNat)
  case atStart => exact ⟨0, by omega, by omega, rfl, by rw [← upto_zero]; exact x4_1, x2_1, xb_1⟩
  case round =>
    clear x4_1 x2_1 xb_1
    obtain ⟨k, hk1, hk2, rfl, x4_1, x2_1, xb_1⟩ := hrel
    by_cases hkd : k < d.size
    · have hkd' : (k : Int) < (d.size : Int) := by omega
      by_cases hkl : k < 224
      · have hkl' : (k : Int) < 224 := by omega
        have hcell : wr.cell? ⟨g4, 3 + k, none⟩ = some (.int .u8 ((upto 224 f k).getD k 0)) := row_at x4_1 (3 + k) _ (R.atI { R.zero with kind := 1, undo := u, no := a, img := upto 224 f k } (upto_length _ _ _) k hkl)
        have hfz := row_frozen x4_1 (3 + k)
        have x4' := row_set x4_1 (3 + k) (.int .u8 (f k))
        rw [R.setOne _ (upto_length _ _ _) k hkl] at x4'
        simp only [upto_step] at x4'
        have x2' := row_setCell_other x2_1 (show w.heap.size ≠ g4 by omega) (3 + k) (.int .u8 (f k))
        have xb' := xb_1.setCell (p := ⟨g4, 3 + k, none⟩) (show w.heap.size ≤ g4 by omega) (.int .u8 (f k))
        have hfk : ((d[k]'hkd).toNat : Int) = f k := by rw [Hf.out]; exact (byteAt_in d k hkd).symm
        obtain ⟨y, hy⟩ : ∃ y, ((d[k]'hkd).toNat) = y := ⟨_, rfl⟩
        rw [hy] at hfk
        rw [← hfk] at x4' x2' xb'
        clear hfk x4_1 HL HFT
        generalize (upto 224 f k).getD k 0 = z at hcell
        go_wp2
        go_roundw
        case rel => exact ⟨k + 1, by omega, by omega, by go_num, x4', x2', xb'⟩
        case measure => simp [intOf]; omega
      · have hkl' : ¬ (k : Int) < 224 := by omega
        have hwh : upto 224 f k = loI d := by
          obtain rfl : k = 224 := by omega
          rw [upto_whole, Hf.out]; rfl
        rw [hwh] at x4_1
        clear hwh
        go_upto_region 27 with fail
        obtain ⟨r, hr⟩ : ∃ r : R, Hid ({ R.zero with kind := 1, undo := u, no := a, img := loI d } = r) := ⟨_, rfl⟩
        have y4 : Row wr g4 r.arr 33 := by rw [← hr.out]; exact x4_1
        have HF : r.Fits := by rw [← hr.out]; exact HFT
        have HD : Hid (decR s = if mayR r = true ∧ encS r = s then some r else none) := by show _ = _; rw [← hr.out]; exact by have q := lo_dec s; rw [HL.out] at q; exact q HFT
        have y2 := x2_1
        have yb := xb_1
        clear x4_1 x2_1 xb_1 hr
        have hsr := R.arr_size r HF.len
        have HE : Hid _ := fun w => renc_any r w HF
        cases hm : mayR r with
        | false =>
          rw [hm] at HE
          have hdn : decR s = none := by rw [HD.out, if_neg (by rw [hm]; simp)]
          have HG : Hid (gotR s = R.zero) := by show _ = _; unfold gotR; rw [hdn]; rfl
          have HI : Hid ((decR s).isSome = false) := by show _ = _; rw [hdn]; rfl
          clear hdn HD hm
          generalize encS r = sr at *
          go_upto_region 29 with (first
            | (refine load_cells rfl 33 (.tmp 4) rfl g4 rfl 33 r.arr y4 238 Try.underlying33 rfl size33 hsr ?_)
            | (go_at_call 10; refine (HE.out _).mono ?_; clear HE; rintro e w5 ⟨rfl, h5⟩; have z2 := y2.below h5 y2.lt; have z4 := y4.below h5 y4.lt; have zb := yb.trans (h5.mono yb.size)))
          go_wp2_with (first
            | (refine build_parts rfl 33 #[] rfl [] rfl _ built33 ?_)
            | (refine store_cells rfl 33 (.tmp 2) (.tmp 125) rfl w.heap.size R.zero.arr rfl rfl 33 _ z2 238 size33 hs0 hs0 (R.arr_one _) ?_))
          refine bodyPost_ret (v := .tuple #[.agg R.zero.arr, .bool false]) ?_ rfl ⟨by rw [HG.out, HI.out], below_setRow zb (Nat.le_refl _) _⟩
          exact ret_cell2 (fn := Try.f14) rfl _ _ w.heap.size 33 _ _ (.bool false) rfl rfl (z2.set _) Try.underlying33 rfl (by rw [size33, hs0])
        | true =>
          rw [hm] at HE
          by_cases he : encS r = s
          · rw [he] at HE
            have hdn : decR s = some r := by rw [HD.out, if_pos ⟨hm, he⟩]
            have HG : Hid (gotR s = r) := by show _ = _; unfold gotR; rw [hdn]; rfl
            have HI : Hid ((decR s).isSome = true) := by show _ = _; rw [hdn]; rfl
            clear hdn HD hm he
            go_upto_region 30 with (first
              | (refine load_cells rfl 33 (.tmp 4) rfl g4 rfl 33 r.arr y4 238 Try.underlying33 rfl size33 hsr ?_)
              | (go_at_call 10; refine (HE.out _).mono ?_; clear HE; rintro e w5 ⟨rfl, h5⟩; have z2 := y2.below h5 y2.lt; have z4 := y4.below h5 y4.lt; have zb := yb.trans (h5.mono yb.size)))
            go_wp2_with (first
              | (refine load_cells rfl 33 (.tmp 4) rfl g4 rfl 33 r.arr z4 238 Try.underlying33 rfl size33 hsr ?_)
              | (refine store_cells rfl 33 (.tmp 2) (.tmp 126) rfl w.heap.size r.arr rfl rfl 33 _ z2 238 size33 hs0 hsr (R.arr_one _) ?_))
            refine bodyPost_ret (v := .tuple #[.agg r.arr, .bool true]) ?_ rfl ⟨by rw [HG.out, HI.out], below_setRow zb (Nat.le_refl _) _⟩
            exact ret_cell2 (fn := Try.f14) rfl _ _ w.heap.size 33 _ _ (.bool true) rfl rfl (z2.set _) Try.underlying33 rfl (by rw [size33, hsr])
          · have hq0 : ¬ (encS r).toList = s.toList := fun z => he (bytes_inj z)
            have hq' : ((encS r).toList == s.toList) = false := by simpa using hq0
            have hdn : decR s = none := by rw [HD.out, if_neg (by rintro ⟨_, z⟩; exact he z)]
            have HG : Hid (gotR s = R.zero) := by show _ = _; unfold gotR; rw [hdn]; rfl
            have HI : Hid ((decR s).isSome = false) := by show _ = _; rw [hdn]; rfl
            clear hdn HD hm he
            generalize encS r = sr at HE hq0 hq'
            go_upto_region 29 with (first
              | (refine load_cells rfl 33 (.tmp 4) rfl g4 rfl 33 r.arr y4 238 Try.underlying33 rfl size33 hsr ?_)
              | (go_at_call 10; refine (HE.out _).mono ?_; clear HE; rintro e w5 ⟨rfl, h5⟩; have z2 := y2.below h5 y2.lt; have z4 := y4.below h5 y4.lt; have zb := yb.trans (h5.mono yb.size)))
            go_wp2_with (first
              | (refine build_parts rfl 33 #[] rfl [] rfl _ built33 ?_)
              | (refine store_cells rfl 33 (.tmp 2) (.tmp 125) rfl w.heap.size R.zero.arr rfl rfl 33 _ z2 238 size33 hs0 hs0 (R.arr_one _) ?_))
            refine bodyPost_ret (v := .tuple #[.agg R.zero.arr, .bool false]) ?_ rfl ⟨by rw [HG.out, HI.out], below_setRow zb (Nat.le_refl _) _⟩
            exact ret_cell2 (fn := Try.f14) rfl _ _ w.heap.size 33 _ _ (.bool false) rfl rfl (z2.set _) Try.underlying33 rfl (by rw [size33, hs0])
    · have hkd' : ¬ (k : Int) < (d.size : Int) := by omega
      have hwh : upto 224 f k = loI d := by
        unfold loI
        apply eq_fl _ _ _ (upto_length _ _ _)
        intro j hj
        unfold upto
        rw [fl_at _ _ _ hj, Hf.out]
        by_cases q : j < k
        · rw [if_pos q]
        · rw [if_neg q]; unfold byteAt; rw [dif_neg (by omega)]
      rw [hwh] at x4_1
      clear hwh
      go_upto_region 27 with fail
      obtain ⟨r, hr⟩ : ∃ r : R, Hid ({ R.zero with kind := 1, undo := u, no := a, img := loI d } = r) := ⟨_, rfl⟩
      have y4 : Row wr g4 r.arr 33 := by rw [← hr.out]; exact x4_1
      have HF : r.Fits := by rw [← hr.out]; exact HFT
      have HD : Hid (decR s = if mayR r = true ∧ encS r = s then some r else none) := by show _ = _; rw [← hr.out]; exact by have q := lo_dec s; rw [HL.out] at q; exact q HFT
      have y2 := x2_1
      have yb := xb_1
      clear x4_1 x2_1 xb_1 hr
      have hsr := R.arr_size r HF.len
      have HE : Hid _ := fun w => renc_any r w HF
      cases hm : mayR r with
      | false =>
        rw [hm] at HE
        have hdn : decR s = none := by rw [HD.out, if_neg (by rw [hm]; simp)]
        have HG : Hid (gotR s = R.zero) := by show _ = _; unfold gotR; rw [hdn]; rfl
        have HI : Hid ((decR s).isSome = false) := by show _ = _; rw [hdn]; rfl
        clear hdn HD hm
        generalize encS r = sr at *
        go_upto_region 29 with (first
          | (refine load_cells rfl 33 (.tmp 4) rfl g4 rfl 33 r.arr y4 238 Try.underlying33 rfl size33 hsr ?_)
          | (go_at_call 10; refine (HE.out _).mono ?_; clear HE; rintro e w5 ⟨rfl, h5⟩; have z2 := y2.below h5 y2.lt; have z4 := y4.below h5 y4.lt; have zb := yb.trans (h5.mono yb.size)))
        go_wp2_with (first
          | (refine build_parts rfl 33 #[] rfl [] rfl _ built33 ?_)
          | (refine store_cells rfl 33 (.tmp 2) (.tmp 125) rfl w.heap.size R.zero.arr rfl rfl 33 _ z2 238 size33 hs0 hs0 (R.arr_one _) ?_))
        refine bodyPost_ret (v := .tuple #[.agg R.zero.arr, .bool false]) ?_ rfl ⟨by rw [HG.out, HI.out], below_setRow zb (Nat.le_refl _) _⟩
        exact ret_cell2 (fn := Try.f14) rfl _ _ w.heap.size 33 _ _ (.bool false) rfl rfl (z2.set _) Try.underlying33 rfl (by rw [size33, hs0])
      | true =>
        rw [hm] at HE
        by_cases he : encS r = s
        · rw [he] at HE
          have hdn : decR s = some r := by rw [HD.out, if_pos ⟨hm, he⟩]
          have HG : Hid (gotR s = r) := by show _ = _; unfold gotR; rw [hdn]; rfl
          have HI : Hid ((decR s).isSome = true) := by show _ = _; rw [hdn]; rfl
          clear hdn HD hm he
          go_upto_region 30 with (first
            | (refine load_cells rfl 33 (.tmp 4) rfl g4 rfl 33 r.arr y4 238 Try.underlying33 rfl size33 hsr ?_)
            | (go_at_call 10; refine (HE.out _).mono ?_; clear HE; rintro e w5 ⟨rfl, h5⟩; have z2 := y2.below h5 y2.lt; have z4 := y4.below h5 y4.lt; have zb := yb.trans (h5.mono yb.size)))
          go_wp2_with (first
            | (refine load_cells rfl 33 (.tmp 4) rfl g4 rfl 33 r.arr z4 238 Try.underlying33 rfl size33 hsr ?_)
            | (refine store_cells rfl 33 (.tmp 2) (.tmp 126) rfl w.heap.size r.arr rfl rfl 33 _ z2 238 size33 hs0 hsr (R.arr_one _) ?_))
          refine bodyPost_ret (v := .tuple #[.agg r.arr, .bool true]) ?_ rfl ⟨by rw [HG.out, HI.out], below_setRow zb (Nat.le_refl _) _⟩
          exact ret_cell2 (fn := Try.f14) rfl _ _ w.heap.size 33 _ _ (.bool true) rfl rfl (z2.set _) Try.underlying33 rfl (by rw [size33, hsr])
        · have hq0 : ¬ (encS r).toList = s.toList := fun z => he (bytes_inj z)
          have hq' : ((encS r).toList == s.toList) = false := by simpa using hq0
          have hdn : decR s = none := by rw [HD.out, if_neg (by rintro ⟨_, z⟩; exact he z)]
          have HG : Hid (gotR s = R.zero) := by show _ = _; unfold gotR; rw [hdn]; rfl
          have HI : Hid ((decR s).isSome = false) := by show _ = _; rw [hdn]; rfl
          clear hdn HD hm he
          generalize encS r = sr at HE hq0 hq'
          go_upto_region 29 with (first
            | (refine load_cells rfl 33 (.tmp 4) rfl g4 rfl 33 r.arr y4 238 Try.underlying33 rfl size33 hsr ?_)
            | (go_at_call 10; refine (HE.out _).mono ?_; clear HE; rintro e w5 ⟨rfl, h5⟩; have z2 := y2.below h5 y2.lt; have z4 := y4.below h5 y4.lt; have zb := yb.trans (h5.mono yb.size)))
          go_wp2_with (first
            | (refine build_parts rfl 33 #[] rfl [] rfl _ built33 ?_)
            | (refine store_cells rfl 33 (.tmp 2) (.tmp 125) rfl w.heap.size R.zero.arr rfl rfl 33 _ z2 238 size33 hs0 hs0 (R.arr_one _) ?_))
          refine bodyPost_ret (v := .tuple #[.agg R.zero.arr, .bool false]) ?_ rfl ⟨by rw [HG.out, HI.out], below_setRow zb (Nat.le_refl _) _⟩
          exact ret_cell2 (fn := Try.f14) rfl _ _ w.heap.size 33 _ _ (.bool false) rfl rfl (z2.set _) Try.underlying33 rfl (by rw [size33, hs0])
set_option maxRecDepth 20000 in
set_option maxHeartbeats 4000000 in
theorem rdec_any (s : ByteArray) (w : World) (hs : s.size ≤ maxLen) :
    Calls Try.prog 14 #[.string s] w fun e w' => e = .returned (.tuple #[.agg (gotR s).arr, .bool (decR s).isSome]) ∧ Below w.heap.size w w' := by
  by_cases h0 : 0 < s.size
  · by_cases k1 : byteAt s 0 = 1
    · exact rdec_1 s w hs h0 k1
    by_cases k2 : byteAt s 0 = 2
    · exact rdec_2 s w hs h0 k2
    by_cases k3 : byteAt s 0 = 3
    · exact rdec_3 s w hs h0 k3
    by_cases k4 : byteAt s 0 = 4
    · exact rdec_4 s w hs h0 k4
    by_cases k5 : byteAt s 0 = 5
    · exact rdec_5 s w hs h0 k5
    by_cases k6 : byteAt s 0 = 6
    · exact rdec_6 s w hs h0 k6
    exact rdec_0 s w hs h0 (by omega)
  · obtain rfl : s = { data := #[] } := by
      obtain ⟨d⟩ := s
      have : d.size = 0 := by have h : ¬ 0 < d.size := h0; omega
      rw [Array.eq_empty_of_size_eq_zero this]
    have hz := zero33
    have hs0 := R.arr_size R.zero (zs_length _)
    have HG : Hid (gotR { data := #[] } = R.zero) := by show _ = _; unfold gotR; rw [dec_empty]; rfl
    have HI : Hid ((decR { data := #[] }).isSome = false) := by show _ = _; rw [dec_empty]; rfl
    rw [HG.out, HI.out]
    have x2 : Row (w.alloc (.cells R.zero.arr 33)) w.heap.size R.zero.arr 33 := Row.new _ _ _
    have xb : Below w.heap.size w (w.alloc (.cells R.zero.arr 33)) := (Below.refl _ _).alloc (Nat.le_refl _) _
    go_enter Try.func14, Try.ntmps14
    go_upto_region 1 with fail
    generalize w.alloc (.cells R.zero.arr 33) = w1 at x2 xb ⊢
    go_wp2_with (first
      | (refine build_parts rfl 33 #[] rfl [] rfl _ built33 ?_)
      | (refine store_cells rfl 33 (.tmp 2) (.tmp 11) rfl w.heap.size R.zero.arr rfl rfl 33 _ x2 238 size33 hs0 hs0 (R.arr_one _) ?_))
    refine bodyPost_ret (v := .tuple #[.agg R.zero.arr, .bool false]) ?_ rfl ⟨rfl, below_setRow xb (Nat.le_refl _) _⟩
    exact ret_cell2 (fn := Try.f14) rfl _ _ w.heap.size 33 _ _ (.bool false) rfl rfl (x2.set _) Try.underlying33 rfl (by rw [size33, hs0])
end Go.Proofs.Ytihjapfgllokgaa
