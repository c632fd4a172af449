/-
  Law RecCut
-/
import Derived.Test.YtihjapfgllokgaaOpn
import Derived.Test.YtihjapfgllokgaaPrc
namespace Go.Proofs.Ytihjapfgllokgaa.recCut
open Go.ChangeShapes Go.WideShapes Go.ChangeAt Go.RowKit
open Go.Deep
set_option linter.unusedVariables false
set_option linter.unusedSimpArgs false

theorem own : ownKnob Try.prog.godebug = none := by kernel_rfl

theorem encT_size {r : R} (hm : mayR r = true) : 1 ≤ (encT r).length ∧ (encT r).length ≤ 301 := by
  have hd := mayR_deltas hm
  have := fldT_length r hd.1 hd.2
  unfold encT
  rw [List.length_append, low_length]
  omega
set_option maxRecDepth 20000 in
set_option maxHeartbeats 4000000 in
theorem walk (w : World) (r : R) (n : Int) (more : ByteArray) (hf : r.Fits) (hn : (Lit.int .i64 n).wf = true) (hmo : more.size ≤ reachBytes) :
    Calls Try.prog 6 #[.agg r.arr, .int .i64 n, .string more] w fun ex w' => ex = .returned (.bool true) ∧ Below w.heap.size w w' := by
  have hz := zero33
  have hs1 := R.arr_size r hf.len
  have hs0 := R.arr_size R.zero (zs_length _)
  have HE : Hid _ := fun w => enc_any r w hf
  have HAW : Hid _ := fun w => awake_any w
  have r1 : Row (w.alloc (.cells r.arr 33)) w.heap.size r.arr 33 := Row.new _ _ _
  have ab : Below w.heap.size w (w.alloc (.cells r.arr 33)) := (Below.refl _ _).alloc (Nat.le_refl _) _
  cases hm : mayR r with
  | false =>
    rw [show encE r = 1 by unfold encE; rw [hm]; rfl, show encS r = { data := #[] } by unfold encS; rw [hm]; rfl] at HE
    go_enter Try.func6, Try.ntmps6
    go_upto_region 1 with fail
    generalize w.alloc (.cells r.arr 33) = w1 at r1 ab ⊢
    go_wp2_with (first
      | (refine load_cells rfl 33 (.tmp 3) rfl w.heap.size rfl 33 r.arr r1 238 Try.underlying33 rfl size33 hs1 ?_)
      | (go_at_call 9; refine (HE.out _).mono ?_; clear HE; rintro e w3 ⟨rfl, h3⟩; have yb := ab.trans (h3.mono ab.size))
      | (go_at_call 12; refine (HAW.out _).mono ?_; clear HAW; rintro e w8 ⟨rfl, h8⟩))
    go_ret
    exact ⟨rfl, yb.trans (h8.mono yb.size)⟩
  | true =>
    have hsz := encT_size hm
    rw [show encE r = 0 by unfold encE; rw [hm]; rfl, show encS r = strOfNums (encT r) by unfold encS; rw [hm]; rfl] at HE
    have HCUT : Hid (∀ N, N < (strOfNums (encT r)).size → decR ((strOfNums (encT r)).extract 0 N) = none) := fun N h => decR_cut hf hm N (by rw [strOfNums_size] at h; exact h)
    have HMO : Hid (more.size ≠ 0 → decR (strOfNums (encT r) ++ more) = none) := fun h => decR_more hf hm more h
    have HEN : Hid (decR (strOfNums (encT r)) = some r) := decR_enc hf hm
    rw [← strOfNums_size] at hsz
    generalize strOfNums (encT r) = sa at HE hsz HCUT HMO HEN
    unfold reachBytes at hmo
    obtain ⟨u, hu⟩ : ∃ u, IntKind.u64.wrap n = u := ⟨_, rfl⟩
    have hu0 : 0 ≤ u := by rw [← hu, IntKind.wrap_u64]; omega
    have w2 : IntKind.u64.wrap (sa.size : Int) = sa.size := by rw [IntKind.wrap_u64]; omega
    obtain ⟨N, hNt⟩ : ∃ N : Nat, u.tmod (sa.size : Int) = N := ⟨(u.tmod (sa.size : Int)).toNat, by have := Int.tmod_nonneg (sa.size : Int) hu0; omega⟩
    have hNlt : N < sa.size := by have := Int.tmod_lt_of_pos u (show (0 : Int) < (sa.size : Int) by omega); omega
    have w3 : IntKind.i64.wrap (N : Int) = N := by rw [IntKind.wrap_i64]; omega
    have w4 : IntKind.u64.wrap (N : Int) = N := by rw [IntKind.wrap_u64]; omega
    have hNi : (N : Int) < (sa.size : Int) := by omega
    have hNl : (N : Int) ≤ (sa.size : Int) := by omega
    have hz0 : ¬ (sa.size : Int) = 0 := by omega
    have hz1 : ((sa.size : Int) == 0) = false := beq_eq_false_iff_ne.2 hz0
    obtain ⟨hn1, hn2⟩ := str_ne sa (by omega)
    have hcd := HCUT.out N hNlt
    obtain ⟨sc, hsc⟩ : ∃ x, sa.extract 0 N = x := ⟨_, rfl⟩
    have hscz : sc.size ≤ maxLen := by rw [← hsc, ByteArray.size_extract]; unfold maxLen; omega
    rw [hsc] at hcd
    have HDC : Hid _ := fun w => dec_any sc w hscz
    rw [show errR sc = 2 by unfold errR; rw [hcd]; rfl, show gotR sc = R.zero by unfold gotR; rw [hcd]; rfl] at HDC
    obtain ⟨Rc, hRc⟩ : ∃ x, Hid (R.zero = x) := ⟨_, rfl⟩
    have hsc2 : Rc.arr.size = 238 := by rw [← hRc.out]; exact hs0
    rw [show (R.zero.arr) = Rc.arr from congrArg R.arr hRc.out] at HDC
    clear hcd HCUT hscz
    have hs3 : ¬ (sa.size + more.size) > 9223372036854775807 := by omega
    by_cases c0 : more.size = 0
    · obtain rfl : more = { data := #[] } := by
        obtain ⟨d⟩ := more
        have : d.size = 0 := c0
        rw [Array.eq_empty_of_size_eq_zero this]
      have hse : sa ++ { data := #[] } = sa := ByteArray.append_empty
      have HDM : Hid _ := fun w => dec_any sa w (by unfold maxLen; omega)
      have hen := HEN.out
      rw [show errR sa = 0 by unfold errR; rw [hen]; rfl, show gotR sa = r by unfold gotR; rw [hen]; rfl] at HDM
      obtain ⟨Rm, hRm⟩ : ∃ x, Hid (r = x) := ⟨_, rfl⟩
      have hsm2 : Rm.arr.size = 238 := by rw [← hRm.out]; exact hs1
      rw [show (r.arr) = Rm.arr from congrArg R.arr hRm.out] at HDM
      clear hen HEN HMO c0 hm
      go_enter Try.func6, Try.ntmps6
      go_upto_region 1 with fail
      generalize w.alloc (.cells r.arr 33) = w1 at r1 ab ⊢
      go_upto_region 4 with (first
        | (refine load_cells rfl 33 (.tmp 3) rfl w.heap.size rfl 33 r.arr r1 238 Try.underlying33 rfl size33 hs1 ?_)
        | (go_at_call 9; refine (HE.out _).mono ?_; clear HE; rintro e w3 ⟨rfl, h3⟩; have xb := ab.trans (h3.mono ab.size)))
      clear r1 ab h3
      go_upto_region 7 with fail
      go_upto_region 8 with (first
        | (go_at_call 13; refine (HDC.out _).mono ?_; clear HDC; rintro e w4 ⟨rfl, h4⟩
           have ub := xb.trans (h4.mono xb.size)
           have p9 : Row (w4.alloc (.cells R.zero.arr 33)) w4.heap.size R.zero.arr 33 := Row.new _ _ _
           have pb := ub.alloc ub.size (.cells R.zero.arr 33))
        | (refine store_cells rfl 33 (.tmp 9) (.tmp 39) rfl w4.heap.size Rc.arr rfl rfl 33 _ p9 238 size33 hs0 hsc2 (R.arr_one _) ?_))
      have yb := below_setRow pb ub.size Rc.arr
      clear xb h4 ub p9 pb
      generalize (w4.alloc (.cells R.zero.arr 33)).setRow w4.heap.size Rc.arr = W4 at yb ⊢
      generalize w4.heap.size = g9
      go_upto_region 9 with (first
        | (go_at_call 13; refine (HDM.out _).mono ?_; clear HDM; rintro e w5 ⟨rfl, h5⟩
           have ub := yb.trans (h5.mono yb.size)
           have p9 : Row (w5.alloc (.cells R.zero.arr 33)) w5.heap.size R.zero.arr 33 := Row.new _ _ _
           have pb := ub.alloc ub.size (.cells R.zero.arr 33))
        | (refine store_cells rfl 33 (.tmp 11) (.tmp 46) rfl w5.heap.size Rm.arr rfl rfl 33 _ p9 238 size33 hs0 hsm2 (R.arr_one _) ?_))
      have zb := below_setRow pb ub.size Rm.arr
      clear yb h5 ub p9 pb
      generalize (w5.alloc (.cells R.zero.arr 33)).setRow w5.heap.size Rm.arr = W5 at zb ⊢
      generalize w5.heap.size = g11
      go_wp2_with (go_at_call 12; refine (HAW.out _).mono ?_; clear HAW; rintro e w8 ⟨rfl, h8⟩)
      go_ret
      exact ⟨rfl, zb.trans (h8.mono zb.size)⟩
    · have hmz := HMO.out c0
      obtain ⟨sm, hsm⟩ : ∃ x, sa ++ more = x := ⟨_, rfl⟩
      have hsmz : sm.size ≤ maxLen := by rw [← hsm, ByteArray.size_append]; unfold maxLen; omega
      rw [hsm] at hmz
      have HDM : Hid _ := fun w => dec_any sm w hsmz
      rw [show errR sm = 2 by unfold errR; rw [hmz]; rfl, show gotR sm = R.zero by unfold gotR; rw [hmz]; rfl] at HDM
      obtain ⟨Rm, hRm⟩ : ∃ x, Hid (R.zero = x) := ⟨_, rfl⟩
      have hsm2 : Rm.arr.size = 238 := by rw [← hRm.out]; exact hs0
      rw [show (R.zero.arr) = Rm.arr from congrArg R.arr hRm.out] at HDM
      obtain ⟨hm1, hm2⟩ := str_ne more (by omega)
      clear hmz HEN HMO c0 hsmz hm
      go_enter Try.func6, Try.ntmps6
      go_upto_region 1 with fail
      generalize w.alloc (.cells r.arr 33) = w1 at r1 ab ⊢
      go_upto_region 4 with (first
        | (refine load_cells rfl 33 (.tmp 3) rfl w.heap.size rfl 33 r.arr r1 238 Try.underlying33 rfl size33 hs1 ?_)
        | (go_at_call 9; refine (HE.out _).mono ?_; clear HE; rintro e w3 ⟨rfl, h3⟩; have xb := ab.trans (h3.mono ab.size)))
      clear r1 ab h3
      go_upto_region 7 with fail
      go_upto_region 8 with (first
        | (go_at_call 13; refine (HDC.out _).mono ?_; clear HDC; rintro e w4 ⟨rfl, h4⟩
           have ub := xb.trans (h4.mono xb.size)
           have p9 : Row (w4.alloc (.cells R.zero.arr 33)) w4.heap.size R.zero.arr 33 := Row.new _ _ _
           have pb := ub.alloc ub.size (.cells R.zero.arr 33))
        | (refine store_cells rfl 33 (.tmp 9) (.tmp 39) rfl w4.heap.size Rc.arr rfl rfl 33 _ p9 238 size33 hs0 hsc2 (R.arr_one _) ?_))
      have yb := below_setRow pb ub.size Rc.arr
      clear xb h4 ub p9 pb
      generalize (w4.alloc (.cells R.zero.arr 33)).setRow w4.heap.size Rc.arr = W4 at yb ⊢
      generalize w4.heap.size = g9
      go_upto_region 9 with (first
        | (go_at_call 13; refine (HDM.out _).mono ?_; clear HDM; rintro e w5 ⟨rfl, h5⟩
           have ub := yb.trans (h5.mono yb.size)
           have p9 : Row (w5.alloc (.cells R.zero.arr 33)) w5.heap.size R.zero.arr 33 := Row.new _ _ _
           have pb := ub.alloc ub.size (.cells R.zero.arr 33))
        | (refine store_cells rfl 33 (.tmp 11) (.tmp 46) rfl w5.heap.size Rm.arr rfl rfl 33 _ p9 238 size33 hs0 hsm2 (R.arr_one _) ?_))
      have zb := below_setRow pb ub.size Rm.arr
      clear yb h5 ub p9 pb
      generalize (w5.alloc (.cells R.zero.arr 33)).setRow w5.heap.size Rm.arr = W5 at zb ⊢
      generalize w5.heap.size = g11
      go_wp2_with (go_at_call 12; refine (HAW.out _).mono ?_; clear HAW; rintro e w8 ⟨rfl, h8⟩)
      go_ret
      exact ⟨rfl, zb.trans (h8.mono zb.size)⟩

set_option maxRecDepth 100000 in
theorem lifted (os : Os) (started : os.Started) (H : Type) (enc : TypeId × Value → H) :
    ReturnsInHanded {} Try.checked os 6 .any (Rows.recCutSpec.pre6 enc Try.prog Try.f6 Rows.recCutRow.domain false) (Rows.recCutSpec.post enc Try.prog Try.f6 false true false false) := by
  refine returnsInHanded_of_change_sized (C := Try.checked) own started (by kernel_rfl) Try.func6
    (ChangeSpec.witness6 (enc := enc) (C := Try.checked) false ⟨#[], #[.agg R.zero.arr, .int .i64 0, .string ByteArray.empty], []⟩ 8 (by kernel_rfl) (by kernel_rfl) (by kernel_rfl) (by kernel_rfl)) ?_
  intro W base args ds gs before hval0 hW hcnd hsz0 _
  have hval : ∀ (j : Nat) t v, Try.f6.params[j]? = some t → args[j]? = some v → Value.okWide Try.prog W .any base t v := hval0
  have hW' := hW
  obtain ⟨p, q, hA0, hV, rfl, hfz, hnd⟩ := hW
  have hA : DataW.TrodAll enc Try.prog W 0 (fun _ => true) true Try.f6.params.toList args.toList ds p := hA0
  have hsz : (DataW.weightsEach Try.prog (Try.f6.params.toList ++ []) (ds ++ gs)).all (· ≤ reachBytes) = true := hsz0
  rw [Try.params6] at hA hval hsz
  obtain ⟨v0, vs0, d0, ds0, p0, q0, hargs, rfl, rfl, h0, r0⟩ := trodAll_cons hA
  obtain ⟨v1, vs1, d1, ds1, p1, q1, rfl, rfl, rfl, h1, r1⟩ := trodAll_cons r0
  obtain ⟨v2, vs2, d2, ds2, p2, q2, rfl, rfl, rfl, h2, r2⟩ := trodAll_cons r1
  obtain ⟨rfl, rfl, rfl⟩ := trodAll_nil r2
  obtain rfl : args = #[v0, v1, v2] := by cases args; simp_all
  obtain ⟨rfl, rfl⟩ := trodVars_none hV
  simp only [List.append_nil] at hsz
  have hlt : ∀ x ∈ (p0 ++ (p1 ++ (p2 ++ []))), x.block < W.heap.size := fun x hx => hW'.lt x (by simpa using hx)
  have hw0 : (d0.weights Try.prog 33).all (· ≤ reachBytes) = true := List.all_eq_true.2 fun m hm => List.all_eq_true.1 hsz m (by simp [DataW.weightsEach, hm])
  have hw1 : (d1.weights Try.prog 3).all (· ≤ reachBytes) = true := List.all_eq_true.2 fun m hm => List.all_eq_true.1 hsz m (by simp [DataW.weightsEach, hm])
  have hw2 : (d2.weights Try.prog 9).all (· ≤ reachBytes) = true := List.all_eq_true.2 fun m hm => List.all_eq_true.1 hsz m (by simp [DataW.weightsEach, hm])
  have k0 := h0
  have k1 := h1
  have k2 := h2
  obtain ⟨a0, rfl, w0⟩ := open_recv (hval 0 33 v0 rfl rfl) h0
  obtain ⟨a1, rfl, rfl, rfl, w1⟩ := open_int Try.underlying3 (hval 1 3 v1 rfl rfl) h1
  obtain ⟨a2, rfl, rfl, rfl, w2⟩ := Go.ChangeMaps.open_string Try.underlying9 (hval 2 9 v2 rfl rfl) h2
  have m2 : a2.size ≤ reachBytes := (show a2.size = a2.data.toList.length from Array.length_toList.symm) ▸ of_decide_eq_true (List.all_eq_true.1 hw2 a2.data.toList.length (by rw [DataW.weights]; exact List.mem_singleton.2 rfl))
  clear hA0 hval0
  simp only [List.append_nil] at hW'
  refine (walk W a0 a1 a2 w0 w1 m2).mono fun e W' ⟨he, hg⟩ => ?_
  subst he
  exact ⟨_, rfl, ⟨_, _, _, [], (p0 ++ ([] ++ ([] ++ []))), [], hW', (trodAll_cons_mk (shut_bool Try.underlying4 _) trodAll_mk0), (trodAll_cons_mk (Below.trod laidOut (by kernel_rfl) (of_decide_eq_true (by kernel_rfl)) k0 hg (fun x hx => hlt x (by simp [hx]))) (trodAll_cons_mk (Below.trod laidOut (by kernel_rfl) (of_decide_eq_true (by kernel_rfl)) k1 hg (fun x hx => (nomatch hx))) (trodAll_cons_mk (Below.trod laidOut (by kernel_rfl) (of_decide_eq_true (by kernel_rfl)) k2 hg (fun x hx => (nomatch hx))) trodAll_mk0))), rfl,
    hg.frame _, fun h => by cases h⟩⟩

theorem over : Rows.recCutRow.holds Try.pinned (OpenSpec.ofChange Rows.recCutSpec) :=
  OpenClaim.holds_of_wide 6 Try.f6 rfl rfl rfl rfl rfl rfl rfl ⟨rfl, rfl, rfl, rfl, rfl⟩ rfl rfl rfl rfl rfl (by kernel_rfl) Try.func6 (by kernel_rfl)
    (of_decide_eq_true (by kernel_rfl)) (by unfold Func.isWrapper; first | (rw [if_pos (by decide +kernel)]; kernel_rfl) | (rw [if_neg (by decide +kernel)]; exact ⟨rfl, rfl⟩))
    (fun os started H enc _ => lifted os started H enc)

/-- The statement. -/
theorem proved : Rows.RecCutSaid :=
  over
#print axioms proved
end Go.Proofs.Ytihjapfgllokgaa.recCut
