/-
  LogNone: a log that is not there holds nothing and takes nothing. No conditions.
-/
import Derived.Test.YtgnedbagelhcbaaLop
import Derived.Test.YtgnedbagelhcbaaLgz
namespace Go.Proofs.Ytgnedbagelhcbaa.logNone
open Go.ChangeShapes Go.WideShapes Go.ChangeAt Go.RowKit
open Go.Deep
set_option linter.unusedVariables false
set_option linter.unusedSimpArgs false

theorem own : ownKnob Try.prog.godebug = none := by kernel_rfl

set_option maxRecDepth 20000

set_option maxHeartbeats 4000000 in
theorem walk (w : World) (s : ByteArray) (n a z : Int) (hs : s.size ≤ maxLen) (hn : (Lit.int .u64 n).wf = true) (ha : (Lit.int .i64 a).wf = true) (hz : (Lit.int .i64 z).wf = true) :
    Calls Try.prog 8 #[.string s, .int .u64 n, .int .i64 a, .int .i64 z] w fun e w' => e = .returned (.bool true) ∧ Below w.heap.size w w' := by
  have hs' : s.size ≤ maxLen := hs
  have hz' : -9223372036854775808 ≤ z ∧ z ≤ 9223372036854775807 := bounds_i64 hz
  have HA : Hid _ := awake_any
  have H1 : Hid _ := lapp_nil s hs'
  have H2 : Hid _ := flush_nil
  have H3 : Hid _ := trim_nil n
  have H4 : Hid _ := fun w => lnew_none a z 1 0 0 w hz'
  have H5 : Hid _ := fun w => scan_none a z 0 w hz'
  have H6 : Hid _ := end_nil
  have H7 : Hid _ := dur_nil
  have H8 : Hid _ := free_nil
  have H9 : Hid _ := tail_nil
  have H0 : Hid _ := from_nil n
  have wb : Below w.heap.size w w := Below.refl _ _
  clear hs hn ha hz hs' hz'
  go_enter Try.func8, Try.ntmps8
  go_wp2_with (first
    | (go_at_call 13; refine Calls.mono (H1.out _) ?_; clear H1; rintro ex w1 ⟨rfl, h1⟩; have wb := wb.trans (h1.mono wb.size))
    | (go_at_call 15; refine Calls.mono (H2.out _) ?_; clear H2; rintro ex w2 ⟨rfl, h2⟩; have wb := wb.trans (h2.mono wb.size))
    | (go_at_call 19; refine Calls.mono (H3.out _) ?_; clear H3; rintro ex w3 ⟨rfl, h3⟩; have wb := wb.trans (h3.mono wb.size))
    | (go_at_call 11; refine Calls.mono (H4.out _) ?_; clear H4; rintro ex w4 ⟨rfl, h4⟩; have wb := wb.trans (h4.mono wb.size))
    | (go_at_call 34; refine Calls.mono (H5.out _) ?_; clear H5; rintro ex w5 ⟨rfl, h5⟩; have wb := wb.trans (h5.mono wb.size))
    | (go_at_call 23; refine Calls.mono (H6.out _) ?_; clear H6; rintro ex w6 ⟨rfl, h6⟩; have wb := wb.trans (h6.mono wb.size))
    | (go_at_call 24; refine Calls.mono (H7.out _) ?_; clear H7; rintro ex w7 ⟨rfl, h7⟩; have wb := wb.trans (h7.mono wb.size))
    | (go_at_call 25; refine Calls.mono (H8.out _) ?_; clear H8; rintro ex w8 ⟨rfl, h8⟩; have wb := wb.trans (h8.mono wb.size))
    | (go_at_call 27; refine Calls.mono (H9.out _) ?_; clear H9; rintro ex w9 ⟨rfl, h9⟩; have wb := wb.trans (h9.mono wb.size))
    | (go_at_call 17; refine Calls.mono (H0.out _) ?_; clear H0; rintro ex w10 ⟨rfl, h10⟩; have wb := wb.trans (h10.mono wb.size))
    | (go_at_call 10; refine Calls.mono (HA.out _) ?_; clear HA; rintro ex w11 ⟨rfl, h11⟩; have wb := wb.trans (h11.mono wb.size)))
  go_ret
  exact ⟨rfl, wb⟩

set_option maxRecDepth 100000 in
theorem lifted (os : Os) (started : os.Started) (H : Type) (enc : TypeId × Value → H) :
    ReturnsInHanded {} Try.checked os 8 .any (Rows.logNoneSpec.pre6 enc Try.prog Try.f8 Rows.logNoneRow.domain false) (Rows.logNoneSpec.post enc Try.prog Try.f8 false true false false) := by
  refine returnsInHanded_of_change_sized (C := Try.checked) own started (by kernel_rfl) Try.func8
    (ChangeSpec.witness6 (enc := enc) (C := Try.checked) false ⟨#[], #[.string ByteArray.empty, .int .u64 0, .int .i64 0, .int .i64 0], []⟩ 8 (by kernel_rfl) (by kernel_rfl) (by kernel_rfl) (by kernel_rfl)) ?_
  intro W base args ds gs before hval0 hW hcnd hsz0 _
  have hval : ∀ (j : Nat) t v, Try.f8.params[j]? = some t → args[j]? = some v → Value.okWide Try.prog W .any base t v := hval0
  have hW' := hW
  obtain ⟨p, q, hA0, hV, rfl, hfz, hnd⟩ := hW
  have hA : DataW.TrodAll enc Try.prog W 0 (fun _ => true) true Try.f8.params.toList args.toList ds p := hA0
  have hsz : (DataW.weightsEach Try.prog (Try.f8.params.toList ++ []) (ds ++ gs)).all (· ≤ reachBytes) = true := hsz0
  rw [Try.params8] at hA hval hsz
  obtain ⟨v0, vs0, d0, ds0, p0, q0, hargs, rfl, rfl, h0, r0⟩ := trodAll_cons hA
  obtain ⟨v1, vs1, d1, ds1, p1, q1, rfl, rfl, rfl, h1, r1⟩ := trodAll_cons r0
  obtain ⟨v2, vs2, d2, ds2, p2, q2, rfl, rfl, rfl, h2, r2⟩ := trodAll_cons r1
  obtain ⟨v3, vs3, d3, ds3, p3, q3, rfl, rfl, rfl, h3, r3⟩ := trodAll_cons r2
  obtain ⟨rfl, rfl, rfl⟩ := trodAll_nil r3
  obtain rfl : args = #[v0, v1, v2, v3] := by cases args; simp_all
  obtain ⟨rfl, rfl⟩ := trodVars_none hV
  simp only [List.append_nil] at hsz
  have hlt : ∀ x ∈ (p0 ++ (p1 ++ (p2 ++ (p3 ++ [])))), x.block < W.heap.size := fun x hx => hW'.lt x (by simpa using hx)
  have hw0 : (d0.weights Try.prog 9).all (· ≤ reachBytes) = true := List.all_eq_true.2 fun m hm => List.all_eq_true.1 hsz m (by simp [DataW.weightsEach, hm])
  have hw1 : (d1.weights Try.prog 25).all (· ≤ reachBytes) = true := List.all_eq_true.2 fun m hm => List.all_eq_true.1 hsz m (by simp [DataW.weightsEach, hm])
  have hw2 : (d2.weights Try.prog 3).all (· ≤ reachBytes) = true := List.all_eq_true.2 fun m hm => List.all_eq_true.1 hsz m (by simp [DataW.weightsEach, hm])
  have hw3 : (d3.weights Try.prog 3).all (· ≤ reachBytes) = true := List.all_eq_true.2 fun m hm => List.all_eq_true.1 hsz m (by simp [DataW.weightsEach, hm])
  have k0 := h0
  have k1 := h1
  have k2 := h2
  have k3 := h3
  obtain ⟨a0, rfl, rfl, rfl, w0⟩ := Go.ChangeMaps.open_string Try.underlying9 (hval 0 9 v0 rfl rfl) h0
  obtain ⟨a1, rfl, rfl, rfl, w1⟩ := open_int Try.underlying25 (hval 1 25 v1 rfl rfl) h1
  obtain ⟨a2, rfl, rfl, rfl, w2⟩ := open_int Try.underlying3 (hval 2 3 v2 rfl rfl) h2
  obtain ⟨a3, rfl, rfl, rfl, w3⟩ := open_int Try.underlying3 (hval 3 3 v3 rfl rfl) h3
  clear hA0 hval0
  simp only [List.append_nil] at hW'
  refine (walk W a0 a1 a2 a3 w0 w1 w2 w3).mono fun e W' ⟨he, hg⟩ => ?_
  subst he
  exact ⟨_, rfl, ⟨_, _, _, [], ([] ++ ([] ++ ([] ++ ([] ++ [])))), [], hW', (trodAll_cons_mk (shut_bool Try.underlying4 _) trodAll_mk0), (trodAll_cons_mk (Below.trod laidOut (by kernel_rfl) (of_decide_eq_true (by kernel_rfl)) k0 hg (fun x hx => (nomatch hx))) (trodAll_cons_mk (Below.trod laidOut (by kernel_rfl) (of_decide_eq_true (by kernel_rfl)) k1 hg (fun x hx => (nomatch hx))) (trodAll_cons_mk (Below.trod laidOut (by kernel_rfl) (of_decide_eq_true (by kernel_rfl)) k2 hg (fun x hx => (nomatch hx))) (trodAll_cons_mk (Below.trod laidOut (by kernel_rfl) (of_decide_eq_true (by kernel_rfl)) k3 hg (fun x hx => (nomatch hx))) trodAll_mk0)))), rfl,
    hg.frame _, fun h => by cases h⟩⟩

theorem over : Rows.logNoneRow.holds Try.pinned (OpenSpec.ofChange Rows.logNoneSpec) :=
  OpenClaim.holds_of_wide 8 Try.f8 rfl rfl rfl rfl rfl rfl rfl ⟨rfl, rfl, rfl, rfl, rfl⟩ rfl rfl rfl rfl rfl (by kernel_rfl) Try.func8 (by kernel_rfl)
    (of_decide_eq_true (by kernel_rfl)) (by unfold Func.isWrapper; first | (rw [if_pos (by decide +kernel)]; kernel_rfl) | (rw [if_neg (by decide +kernel)]; exact ⟨rfl, rfl⟩))
    (fun os started H enc _ => lifted os started H enc)

/-- The statement. -/
theorem proved : Rows.LogNoneSaid :=
  over
#print axioms proved
end Go.Proofs.Ytgnedbagelhcbaa.logNone
