/-
  Proved here: a machine that isn't there, or is closed, does nothing; without a condition.
-/
import Derived.Test.YtpncmbkklkfmnaaMop
namespace Go.Proofs.Ytpncmbkklkfmnaa.modelNone
open Go.ChangeShapes Go.WideShapes Go.ChangeAt Go.RowKit
open Go.Deep
set_option linter.unusedVariables false
set_option linter.unusedSimpArgs false

theorem own : ownKnob Try.prog.godebug = none := by kernel_rfl

set_option maxRecDepth 20000
def cl7 : Cal := ⟨7, 0, 0, 0, ⟨#[]⟩⟩
theorem cl7_ok : cl7.Ok := ⟨by decide, by decide, by decide, by decide⟩
theorem r7 : doR (newS 2 5) cl7 = Rep.zero := rfl
theorem s7 : doS (newS 2 5) cl7 = { newS 2 5 with closed := true } := rfl
set_option maxHeartbeats 4000000 in
theorem walk (w : World) (cl : Cal) (ts : Int) (hcl : cl.Ok) (hts : (Lit.int .u32 ts).wf = true) :
    Calls Try.prog 8 #[.agg cl.arr, .int .u32 ts] w fun e w' => e = .returned (.bool true) ∧ Below w.heap.size w w' := by
  have HNW : Hid (∀ W, Calls Try.prog 9 #[.int .i64 2, .int .u32 5] W fun e w' => NewM W 2 5 e w') := fun W => new_some 2 (by decide) (by decide) 5 (by decide) (by decide) W
  have HB : Hid (0 ≤ cl.page ∧ cl.page ≤ 65535) := hcl.p
  obtain ⟨CE, HCE⟩ : ∃ CE, Hid (cl.arr = CE) := ⟨_, rfl⟩
  have HCS : Hid (CE.size = 5) := by rw [← HCE.out]; rfl
  have HC2 : Hid (CE[2]? = some (.int .u16 cl.page)) := by rw [← HCE.out]; rfl
  obtain ⟨W0, HW0⟩ : ∃ W0, Hid (w.alloc (.cells CE 35) = W0) := ⟨_, rfl⟩
  have ab : Below w.heap.size w W0 := by rw [← HW0.out]; exact (Below.refl _ _).alloc (Nat.le_refl _) _
  have rc : Row W0 w.heap.size CE 35 := by rw [← HW0.out]; exact Row.new _ _ _
  have HD7 : Hid (∀ W F g, MS W0 F g (newS 2 5) W → Calls Try.prog 12 #[.pointer (some ⟨g, 0, none⟩), .agg #[.int .u8 7, .int .u64 0, .int .u16 0, .int .i64 0, .string ⟨#[]⟩]] W fun r w' => r = .returned (.agg Rep.zero.arr) ∧ Step W0 F g { newS 2 5 with closed := true } W w') := fun W F g c => by
    have := c.call cl7 cl7_ok (by decide)
    rw [r7, s7] at this
    exact this
  have HDN : Hid (∀ W, Calls Try.prog 12 #[.pointer none, .agg CE] W fun r w' => r = .returned (.agg (Rep.fail 12).arr) ∧ Below W.heap.size W w') := fun W => by rw [← HCE.out]; exact do_nil cl W
  have HDC : Hid (∀ W F g, MS W0 F g { newS 2 5 with closed := true } W → Calls Try.prog 12 #[.pointer (some ⟨g, 0, none⟩), .agg CE] W fun r w' => r = .returned (.agg (Rep.fail 12).arr) ∧ Step W0 F g { newS 2 5 with closed := true } W w') := fun W F g c => by
    have := c.call cl hcl (by decide)
    rw [HCE.out] at this
    exact this
  have HAN : Hid (∀ W, Calls Try.prog 16 #[.pointer none, .int .u16 cl.page, .int .u32 ts] W fun r w' => r = .returned (.agg Ver.zero.arr) ∧ Below W.heap.size W w') := fun W => at_nil cl.page ts W
  have HLN : Hid (∀ W, Calls Try.prog 14 #[.pointer none] W fun r w' => r = .returned (.int .u32 0) ∧ w' = W) := fun W => last_nil W
  have HAW : Hid (∀ W, Calls Try.prog 10 #[] W fun r w' => r = .returned (.bool true) ∧ Below W.heap.size W w') := fun W => awake_any W
  have bz := built40_none
  have bf := built40_err 12
  have bv := built44_none
  have eqz : ∀ w, (Op.equalIn 10000 40 (.agg Rep.zero.arr) (.agg Rep.zero.arr)).run Try.prog w = .ok true w := fun w => by rw [equal40 _ _ (zs_length _) (zs_length _)]; simp
  have eqf : ∀ w, (Op.equalIn 10000 40 (.agg (Rep.fail 12).arr) (.agg (Rep.fail 12).arr)).run Try.prog w = .ok true w := fun w => by rw [equal40 _ _ (zs_length _) (zs_length _)]; simp
  have eqv : ∀ w, (Op.equalIn 10000 44 (.agg Ver.zero.arr) (.agg Ver.zero.arr)).run Try.prog w = .ok true w := fun w => by rw [equal44 _ _ (zs_length _) (zs_length _)]; simp
  obtain ⟨ZA, HZA⟩ : ∃ ZA, Hid (Rep.zero.arr = ZA) := ⟨_, rfl⟩
  obtain ⟨FA, HFA⟩ : ∃ FA, Hid ((Rep.fail 12).arr = FA) := ⟨_, rfl⟩
  obtain ⟨VA, HVA⟩ : ∃ VA, Hid (Ver.zero.arr = VA) := ⟨_, rfl⟩
  rw [HZA.out] at HD7 bz eqz
  rw [HFA.out] at HDN HDC bf eqf
  rw [HVA.out] at HAN bv eqv
  rw [HCE.out]
  clear hcl hts
  obtain ⟨PP, HPP⟩ : ∃ PP : Ending → World → Prop, Hid (PP = fun e w' => e = .returned (.bool true) ∧ Below w.heap.size w w') := ⟨_, rfl⟩
  rw [← HPP.out]
  go_enter Try.func8, Try.ntmps8
  go_upto_region 1 with fail
  rw [HW0.out]
  have hn := HNW.out W0
  go_upto_region 3 with (go_at_call 9; refine Calls.mono hn ?_; clear hn; rintro e W1 hnm; obtain ⟨g, rfl, ms0⟩ := MS.start hnm; clear hnm)
  generalize (fun k => W0.heap.size ≤ k ∧ k < W1.heap.size) = F0 at ms0
  have hd := HD7.out W1 F0 g ms0
  have ab1 := ab.trans (ms0.bel.mono ab.size)
  have rc1 := rc.below ms0.bel rc.lt
  have tb : Hid (1 = 1) := rfl
  go_upto_region 5 with (first
    | (go_at_call 12; refine Calls.mono hd ?_; clear hd; rintro e W2 ⟨he, hst⟩; obtain rfl := he)
    | (have hh := tb; clear hh tb; refine build_cells_g (by rfl) 40 #[] rfl _ rfl ZA bz ?_))
  obtain ⟨F1, ms1, _, _⟩ := hst
  have ab2 := ab.trans (ms1.bel.mono ab.size)
  have rc2 := rc.below ms1.bel rc.lt
  obtain ⟨k0, HK0⟩ : ∃ k0, Hid (w.heap.size = k0) := ⟨_, rfl⟩
  rw [HK0.out] at rc2 ⊢
  have hd1 := HDN.out W2
  have t1 : Hid (1 = 1) := rfl
  have t2 : Hid (1 = 1) := rfl
  have t3 : Hid (1 = 1) := rfl
  have t4 : Hid (1 = 1) := rfl
  have t5 : Hid (1 = 1) := rfl
  go_wp2_with (first
    | (have hh := t1; clear hh t1; refine load_cells rfl 35 (.tmp 2) rfl k0 rfl 35 CE rc2 5 Try.underlying35 rfl size35 HCS.out ?_)
    | (go_at_call 12; refine Calls.mono hd1 ?_; clear hd1; rintro e W3 ⟨he, hb3⟩; obtain rfl := he; have ms3 := ms1.below hb3; have rc3 := rc2.below hb3 rc2.lt; have hd2 := HDC.out W3 F1 g ms3)
    | (have hh := t2; clear hh t2; refine build_cells rfl 40 #[(0, .const (.int .i64 12))] rfl _ rfl FA bf ?_)
    | (have hh := t3; clear hh t3; refine load_cells_g (by rfl) 35 (.tmp 2) rfl k0 rfl 35 CE rc3 5 Try.underlying35 rfl size35 HCS.out ?_)
    | (go_at_call 12; refine Calls.mono hd2 ?_; clear hd2; rintro e W4 ⟨he, hst⟩; obtain rfl := he; obtain ⟨F2, ms4, of4, ff4⟩ := hst; have rc4 := rc3.off of4 (fun q => by have := ms3.new k0 q; have := HK0.out; have := rc.lt; omega); have c42 := row_at rc4 2 _ HC2.out; have ha := HAN.out W4)
    | (have hh := t4; clear hh t4; refine build_cells_g (by rfl) 40 #[(0, .const (.int .i64 12))] rfl _ rfl FA bf ?_)
    | (go_at_call 16; refine Calls.mono ha ?_; clear ha; rintro e W5 ⟨he, hb5⟩; obtain rfl := he; have ms5 := ms4.below hb5; have hl := HLN.out W5)
    | (have hh := t5; clear hh t5; refine build_cells_g (by rfl) 44 #[] rfl _ rfl VA bv ?_)
    | (go_at_call 14; refine Calls.mono hl ?_; clear hl; rintro e W6 ⟨he, hww⟩; rw [hww]; clear hww W6; obtain rfl := he; have hw := HAW.out W5)
    | (go_at_call 10; refine Calls.mono hw ?_; clear hw; rintro e W7 ⟨he, hb7⟩; obtain rfl := he; have ms7 := ms5.below hb7))
  rw [HPP.out]
  exact ⟨rfl, ab.trans (ms7.bel.mono ab.size)⟩

set_option maxRecDepth 100000 in
theorem lifted (os : Os) (started : os.Started) (H : Type) (enc : TypeId × Value → H) :
    ReturnsInHanded {} Try.checked os 8 .any (Rows.modelNoneSpec.pre6 enc Try.prog Try.f8 Rows.modelNoneRow.domain false) (Rows.modelNoneSpec.post enc Try.prog Try.f8 false true false false) := by
  refine returnsInHanded_of_change_sized (C := Try.checked) own started (by kernel_rfl) Try.func8
    (ChangeSpec.witness6 (enc := enc) (C := Try.checked) false ⟨#[], #[.agg #[.int .u8 0, .int .u64 0, .int .u16 0, .int .i64 0, .string ByteArray.empty], .int .u32 0], []⟩ 8 (by kernel_rfl) (by kernel_rfl) (by kernel_rfl) (by kernel_rfl)) ?_
  intro W base args ds gs before hval0 hW hcnd hsz0 _
  have hval : ∀ (j : Nat) t v, Try.f8.params[j]? = some t → args[j]? = some v → Value.okWide Try.prog W .any base t v := hval0
  have hW' := hW
  obtain ⟨p, q, hA0, hV, rfl, hfz, hnd⟩ := hW
  have hA : DataW.TrodAll enc Try.prog W 0 (fun _ => true) true Try.f8.params.toList args.toList ds p := hA0
  have hsz : (DataW.weightsEach Try.prog (Try.f8.params.toList ++ []) (ds ++ gs)).all (· ≤ reachBytes) = true := hsz0
  rw [Try.params8] at hA hval hsz
  obtain ⟨v0, vs0, d0, ds0, p0, q0, hargs, rfl, rfl, h0, r0⟩ := trodAll_cons hA
  obtain ⟨v1, vs1, d1, ds1, p1, q1, rfl, rfl, rfl, h1, r1⟩ := trodAll_cons r0
  obtain ⟨rfl, rfl, rfl⟩ := trodAll_nil r1
  obtain rfl : args = #[v0, v1] := by cases args; simp_all
  obtain ⟨rfl, rfl⟩ := trodVars_none hV
  simp only [List.append_nil] at hsz
  have hlt : ∀ x ∈ (p0 ++ (p1 ++ [])), x.block < W.heap.size := fun x hx => hW'.lt x (by simpa using hx)
  have hw0 : (d0.weights Try.prog 35).all (· ≤ reachBytes) = true := List.all_eq_true.2 fun m hm => List.all_eq_true.1 hsz m (by simp [DataW.weightsEach, hm])
  have hw1 : (d1.weights Try.prog 22).all (· ≤ reachBytes) = true := List.all_eq_true.2 fun m hm => List.all_eq_true.1 hsz m (by simp [DataW.weightsEach, hm])
  have k0 := h0
  have k1 := h1
  obtain ⟨a0, rfl, w0⟩ := open_calv (hval 0 35 v0 rfl rfl) h0
  obtain ⟨a1, rfl, rfl, rfl, w1⟩ := open_int Try.underlying22 (hval 1 22 v1 rfl rfl) h1
  clear hA0 hval0
  simp only [List.append_nil] at hW'
  refine (walk W a0 a1 w0 w1).mono fun e W' ⟨he, hg⟩ => ?_
  subst he
  exact ⟨_, rfl, ⟨_, _, _, [], (p0 ++ ([] ++ [])), [], hW', (trodAll_cons_mk (shut_bool Try.underlying4 _) trodAll_mk0), (trodAll_cons_mk (Below.trod laidOut (by kernel_rfl) (of_decide_eq_true (by kernel_rfl)) k0 hg (fun x hx => hlt x (by simp [hx]))) (trodAll_cons_mk (Below.trod laidOut (by kernel_rfl) (of_decide_eq_true (by kernel_rfl)) k1 hg (fun x hx => (nomatch hx))) trodAll_mk0)), rfl,
    hg.frame _, fun h => by cases h⟩⟩

theorem over : Rows.modelNoneRow.holds Try.pinned (OpenSpec.ofChange Rows.modelNoneSpec) :=
  OpenClaim.holds_of_wide 8 Try.f8 rfl rfl rfl rfl rfl rfl rfl ⟨rfl, rfl, rfl, rfl, rfl⟩ rfl rfl rfl rfl rfl (by kernel_rfl) Try.func8 (by kernel_rfl)
    (of_decide_eq_true (by kernel_rfl)) (by unfold Func.isWrapper; first | (rw [if_pos (by decide +kernel)]; kernel_rfl) | (rw [if_neg (by decide +kernel)]; exact ⟨rfl, rfl⟩))
    (fun os started H enc _ => lifted os started H enc)

/-- The statement. -/
theorem proved : Rows.ModelNoneSaid :=
  over
#print axioms proved
end Go.Proofs.Ytpncmbkklkfmnaa.modelNone
