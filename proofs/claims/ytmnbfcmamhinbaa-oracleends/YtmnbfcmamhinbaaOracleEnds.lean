/-
  OracleEnds (P14.5): for every greatest timestamp and every number of timestamps that are left, there are just as many commits, and then none; and the fixed run comes out.
-/
import Derived.Test.YtmnbfcmamhinbaaOrd
namespace Go.Proofs.Ytmnbfcmamhinbaa.oracleEnds
open Go.ChangeShapes Go.WideShapes Go.ChangeAt Go.RowKit
open Go.Deep
set_option linter.unusedVariables false
set_option linter.unusedSimpArgs false

theorem own : ownKnob Try.prog.godebug = none := by kernel_rfl

set_option maxHeartbeats 2000000 in
theorem walk (w : World) (max left : Int) (wf0 : (Lit.int .u32 max).wf = true) (wf1 : (Lit.int .u8 left).wf = true) : Calls Try.prog 5 #[.int .u32 max, .int .u8 left] w fun e w' => e = .returned (.bool true) ∧ Below w.heap.size w w' := by
  have m1 := wf_u4 wf0
  have l1 := wf_u1 wf1
  have hcl : IntKind.u32.wrap left = left := by rw [IntKind.wrap_u32]; omega
  clear wf0 wf1
  by_cases hgt : left > max
  · have H9 := awake_any w
    go_enter Try.func5, Try.ntmps5
    go_wp2_with (go_at_call 10; refine H9.mono ?_; clear H9; rintro e w2 ⟨he, b2⟩; obtain rfl := he)
    go_ret
    exact ⟨rfl, b2⟩
  · obtain ⟨A, HA⟩ : ∃ A, Hid (max - left = A) := ⟨_, rfl⟩
    have hsub : IntKind.u32.wrap (max - left) = A := by rw [IntKind.wrap_u32, ← HA.out]; omega
    have hAr : 0 ≤ A ∧ A + left = max := by have := HA.out; omega
    obtain ⟨M1, HM1⟩ : ∃ M1, Hid (IntKind.u32.wrap (max + 1) = M1) := ⟨_, rfl⟩
    have hmx := HM1.out
    have hnew := new_some A max hAr.1 (by omega) m1.2 w
    have HAR : Hid _ := hAr
    have HM : Hid _ := m1
    clear hAr m1
    go_enter Try.func5, Try.ntmps5
    go_upto_block 0 with (go_at_call 9; refine hnew.mono ?_; clear hnew; rintro e w1 ⟨g, m, he, hg, hm, c1, b1⟩; obtain rfl := he; have HG : Hid (w.heap.size ≤ g) := hg; have HMM : Hid (w.heap.size ≤ m) := hm; clear hg hm)
    have hF : Hid (∀ k, two g m k → w.heap.size ≤ k) := fun k hk => by
      rcases hk with rfl | rfl
      · exact HG.out
      · exact HMM.out
    go_wp2_with fail
    go_loopw [6] (fun i wr => ∃ (k last : Int), i = .int .u32 k ∧ 0 ≤ k ∧ k ≤ left ∧ Hid (last = A + k) ∧ OAt wr g m last max 0 [] ∧ Below w.heap.size w wr) (fun i _ => (left - intOf i).toNat)
    case atStart => exact ⟨0, A, rfl, by omega, by omega, (Int.add_zero A).symm, c1, b1⟩
    case round =>
      clear c1 b1
      obtain ⟨k, last, rfl, hk0, hkl, HL, C, rb⟩ := hrel
      by_cases hlt : k < left
      · have hnx := next_any C
        have hne : ¬ last = max := by have := HL.out; have := HAR.out; omega
        have e1 : nextV last max = last + 1 := if_neg hne
        have e2 : nextE last max = 0 := if_neg hne
        rw [e1, e2] at hnx
        have HPB : Hid (∀ w', OAt w' g m last max 0 [] → Calls Try.prog 17 #[.pointer (some ⟨g, 0, none⟩), .int .u32 (last + 1)] w' fun e w2 => e = .returned (.int .i64 0) ∧ OAt w2 g m (last + 1) max 0 [] ∧ Off (two g m) w' w2) := fun w' c' => publish_yes c' _ ⟨hne, rfl⟩
        have a1 : IntKind.u32.wrap (A + k) = last := by have := HL.out; have := HAR.out; have := HM.out; rw [IntKind.wrap_u32]; omega
        have a2 : IntKind.u32.wrap (last + 1) = last + 1 := by have := HL.out; have := HAR.out; have := HM.out; rw [IntKind.wrap_u32]; omega
        have a3 : IntKind.u32.wrap (k + 1) = k + 1 := by rw [IntKind.wrap_u32]; omega
        have HL2 : Hid (last + 1 = A + (k + 1)) := by have := HL.out; show _ = _; omega
        clear e1 e2 hne
        go_wp2_with (first
          | (go_at_call 12; refine hnx.mono ?_; clear hnx; rintro e w2 ⟨he, b2⟩; obtain rfl := he; have C2 := C.below b2; have rb2 := rb.trans (b2.mono rb.size); clear b2)
          | (go_at_call 17; refine (HPB.out _ C2).mono ?_; clear HPB; rintro e w3 ⟨he, C3, o3⟩; obtain rfl := he))
        have rb3 := rb2.trans (o3.below rb2.size hF.out)
        go_roundw
        case rel => exact ⟨k + 1, last + 1, by go_num, by omega, by omega, HL2, C3, rb3⟩
        case measure => simp [intOf]; omega
      · have hkq : k = left := by omega
        have hlm : last = max := by have := HL.out; have := HAR.out; omega
        subst hkq
        have hnx := next_any C
        have e1 : nextV last max = 0 := if_pos hlm
        have e2 : nextE last max = 8 := if_pos hlm
        rw [e1, e2] at hnx
        have HP : Hid (∀ w' ts, OAt w' g m last max 0 [] → Calls Try.prog 17 #[.pointer (some ⟨g, 0, none⟩), .int .u32 ts] w' fun e w2 => e = .returned (.int .i64 1) ∧ Below w'.heap.size w' w2) := fun w' ts c' => publish_no c' ts (fun q => q.1 hlm)
        have HLS : Hid (∀ w', OAt w' g m last max 0 [] → Calls Try.prog 18 #[.pointer (some ⟨g, 0, none⟩)] w' fun e w2 => e = .returned (.int .u32 max) ∧ w2 = w') := fun w' c' => by rw [← hlm] at c' ⊢; exact last_any c'
        clear e1 e2
        have HQ : Hid _ := hlm
        clear hlm HL
        have t1 : Hid (1 = 1) := rfl
        go_wp2_with (first
          | (go_at_call 12; refine hnx.mono ?_; clear hnx; rintro e w2 ⟨he, b2⟩; obtain rfl := he; have C2 := C.below b2; have rb2 := rb.trans (b2.mono rb.size); clear b2)
          | (have hh := t1; clear hh t1; go_at_call 17; refine (HP.out _ _ C2).mono ?_; rintro e w3 ⟨he, b3⟩; obtain rfl := he; have C3 := C2.below b3; have rb3 := rb2.trans (b3.mono rb2.size); clear b3)
          | (go_at_call 17; refine (HP.out _ _ C3).mono ?_; rintro e w4 ⟨he, b4⟩; obtain rfl := he; have C4 := C3.below b4; have rb4 := rb3.trans (b4.mono rb3.size); clear b4)
          | (go_at_call 18; refine (HLS.out _ C4).mono ?_; clear HLS; rintro e wb ⟨he, hww⟩; rw [hww]; clear hww wb; obtain rfl := he)
          | (go_at_call 10; refine (awake_any _).mono ?_; rintro e w5 ⟨he, b5⟩; obtain rfl := he))
        go_ret
        exact ⟨rfl, rb4.trans (b5.mono rb4.size)⟩

set_option maxRecDepth 100000 in
theorem lifted (os : Os) (started : os.Started) (H : Type) (enc : TypeId × Value → H) :
    ReturnsInHanded {} Try.checked os 5 .any (Rows.oracleEndsSpec.pre6 enc Try.prog Try.f5 Rows.oracleEndsRow.domain false) (Rows.oracleEndsSpec.post enc Try.prog Try.f5 false true false false) := by
  refine returnsInHanded_of_change_sized (C := Try.checked) own started (by kernel_rfl) Try.func5
    (ChangeSpec.witness6 (enc := enc) (C := Try.checked) false ⟨#[], #[.int .u32 0, .int .u8 0], []⟩ 8 (by kernel_rfl) (by kernel_rfl) (by kernel_rfl) (by kernel_rfl)) ?_
  intro W base args ds gs before hval0 hW hcnd hsz0 _
  have hval : ∀ (j : Nat) t v, Try.f5.params[j]? = some t → args[j]? = some v → Value.okWide Try.prog W .any base t v := hval0
  have hW' := hW
  obtain ⟨p, q, hA0, hV, rfl, hfz, hnd⟩ := hW
  have hA : DataW.TrodAll enc Try.prog W 0 (fun _ => true) true Try.f5.params.toList args.toList ds p := hA0
  have hsz : (DataW.weightsEach Try.prog (Try.f5.params.toList ++ []) (ds ++ gs)).all (· ≤ reachBytes) = true := hsz0
  rw [Try.params5] at hA hval hsz
  obtain ⟨v0, vs0, d0, ds0, p0, q0, hargs, rfl, rfl, h0, r0⟩ := trodAll_cons hA
  obtain ⟨v1, vs1, d1, ds1, p1, q1, rfl, rfl, rfl, h1, r1⟩ := trodAll_cons r0
  obtain ⟨rfl, rfl, rfl⟩ := trodAll_nil r1
  obtain rfl : args = #[v0, v1] := by cases args; simp_all
  obtain ⟨rfl, rfl⟩ := trodVars_none hV
  simp only [List.append_nil] at hsz
  have hlt : ∀ x ∈ (p0 ++ (p1 ++ [])), x.block < W.heap.size := fun x hx => hW'.lt x (by simpa using hx)
  have hw0 : (d0.weights Try.prog 22).all (· ≤ reachBytes) = true := List.all_eq_true.2 fun m hm => List.all_eq_true.1 hsz m (by simp [DataW.weightsEach, hm])
  have hw1 : (d1.weights Try.prog 5).all (· ≤ reachBytes) = true := List.all_eq_true.2 fun m hm => List.all_eq_true.1 hsz m (by simp [DataW.weightsEach, hm])
  have k0 := h0
  have k1 := h1
  obtain ⟨a0, rfl, rfl, rfl, w0⟩ := open_int Try.underlying22 (hval 0 22 v0 rfl rfl) h0
  obtain ⟨a1, rfl, rfl, rfl, w1⟩ := open_int Try.underlying5 (hval 1 5 v1 rfl rfl) h1
  clear hA0 hval0
  simp only [List.append_nil] at hW'
  refine (walk W a0 a1 w0 w1).mono fun e W' ⟨he, hg⟩ => ?_
  subst he
  exact ⟨_, rfl, ⟨_, _, _, [], ([] ++ ([] ++ [])), [], hW', (trodAll_cons_mk (shut_bool Try.underlying4 _) trodAll_mk0), (trodAll_cons_mk (Below.trod laidOut (by kernel_rfl) (of_decide_eq_true (by kernel_rfl)) k0 hg (fun x hx => (nomatch hx))) (trodAll_cons_mk (Below.trod laidOut (by kernel_rfl) (of_decide_eq_true (by kernel_rfl)) k1 hg (fun x hx => (nomatch hx))) trodAll_mk0)), rfl,
    hg.frame _, fun h => by cases h⟩⟩

theorem over : Rows.oracleEndsRow.holds Try.pinned (OpenSpec.ofChange Rows.oracleEndsSpec) :=
  OpenClaim.holds_of_wide 5 Try.f5 rfl rfl rfl rfl rfl rfl rfl ⟨rfl, rfl, rfl, rfl, rfl⟩ rfl rfl rfl rfl rfl (by kernel_rfl) Try.func5 (by kernel_rfl)
    (of_decide_eq_true (by kernel_rfl)) (by unfold Func.isWrapper; first | (rw [if_pos (by decide +kernel)]; kernel_rfl) | (rw [if_neg (by decide +kernel)]; exact ⟨rfl, rfl⟩))
    (fun os started H enc _ => lifted os started H enc)

/-- The statement. -/
theorem proved : Rows.OracleEndsSaid :=
  over
#print axioms proved
end Go.Proofs.Ytmnbfcmamhinbaa.oracleEnds
