/-
  Proved: for all texts the Go function varvelaw03.DeltaComposes returns true and leaves its arguments as they were; no condition.
-/
import Derived.Test.YtdopghiconcjlaaRcompose
import Derived.Test.YtdopghiconcjlaaShut
namespace Go.Proofs.Ytdopghiconcjlaa.deltaComposes
open Go.ChangeShapes Go.WideShapes Go.ChangeAt Go.RowKit
open Go.ChangeMaps (open_string shut_string)
set_option linter.unusedVariables false
set_option linter.unusedSimpArgs false

theorem own : ownKnob Try.prog.godebug = none := by kernel_rfl

set_option maxHeartbeats 1000000 in
theorem walk_as (d e : ByteArray) (hd : Hid (d.size ≤ maxLen)) (he : Hid (e.size ≤ maxLen)) (X : ByteArray) (E : Int) (B : Bool) (hE : E = 0 ∧ B = true ∨ E = 2 ∧ B = false)
    (H1 : Hid (composed d e = .tuple #[.string X, .int .i64 E])) (H2 : Hid (∀ w, Calls Try.prog 16 #[.string d, .string e] w fun x w' => x = .returned (.tuple #[.string X, .bool B]) ∧ Below w.heap.size w w')) (w : World) :
    Calls Try.prog 5 #[.string d, .string e] w fun x w' => x = .returned (.bool true) ∧ Below w.heap.size w w' := by
  rcases hE with ⟨rfl, rfl⟩ | ⟨rfl, rfl⟩
  · go_enter Try.func5, Try.ntmps5
    go_wp2_with (first
      | (go_at_call 15; refine (compose_any d e hd.out he.out _).mono ?_; rw [H1.out]; rintro x w1 ⟨rfl, h1⟩)
      | (go_at_call 16; refine (H2.out _).mono ?_; rintro x w2 ⟨rfl, h2⟩)
      | (go_at_call 14; refine (awake_any _).mono ?_; rintro x w3 ⟨rfl, h3⟩))
    go_ret
    have l1 := h1.size
    have l2 := h2.size
    exact ⟨by simp, (h1.trans (h2.mono (by omega))).trans (h3.mono (by omega))⟩
  · go_enter Try.func5, Try.ntmps5
    go_wp2_with (first
      | (go_at_call 15; refine (compose_any d e hd.out he.out _).mono ?_; rw [H1.out]; rintro x w1 ⟨rfl, h1⟩)
      | (go_at_call 16; refine (H2.out _).mono ?_; rintro x w2 ⟨rfl, h2⟩)
      | (go_at_call 14; refine (awake_any _).mono ?_; rintro x w3 ⟨rfl, h3⟩))
    go_ret
    have l1 := h1.size
    have l2 := h2.size
    exact ⟨by simp, (h1.trans (h2.mono (by omega))).trans (h3.mono (by omega))⟩
theorem walk (d e : ByteArray) (hd : d.size ≤ maxLen) (he : e.size ≤ maxLen) (w : World) :
    Calls Try.prog 5 #[.string d, .string e] w fun x w' => x = .returned (.bool true) ∧ Below w.heap.size w w' := by
  obtain ⟨A1, G1, B1, v1, a1, g1, b1, s1⟩ := readV_is d
  obtain ⟨A2, G2, B2, v2, a2, g2, b2, s2⟩ := readV_is e
  cases hp : pieces d with
  | none =>
    rw [hp] at b1
    exact walk_as d e hd he ⟨#[]⟩ 2 false (Or.inr ⟨rfl, rfl⟩) (by show _ = _; unfold composed; rw [hp]) (fun w => rcompose_bad d e hd he A1 A2 G1 G2 B1 B2 a1 a2 g1 g2 v1 v2 (Or.inl b1) w) w
  | some p =>
    rw [hp] at b1
    cases hq : pieces e with
    | none =>
      rw [hq] at b2
      exact walk_as d e hd he ⟨#[]⟩ 2 false (Or.inr ⟨rfl, rfl⟩) (by show _ = _; unfold composed; rw [hp, hq]) (fun w => rcompose_bad d e hd he A1 A2 G1 G2 B1 B2 a1 a2 g1 g2 v1 v2 (Or.inr ⟨b1, b2⟩) w) w
    | some q =>
      rw [hq] at b2
      obtain ⟨fp, yp⟩ := pieces_ok d p hp
      obtain ⟨fq, yq⟩ := pieces_ok e q hq
      obtain ⟨rfl, rfl⟩ := s1 p hp
      obtain ⟨rfl, rfl⟩ := s2 q hq
      have b1' : B1 = true := b1
      have b2' : B2 = true := b2
      subst b1'
      subst b2'
      have m1 : mixB (applyAll (zs 64) p) (applyAll (zs 64) q) (hasAll fs q) 64 = applyAll (zs 64) (p ++ q) := by rw [mixB_whole _ a1 q fq, applyAll_append]
      have m2 := mixH_whole p q
      have ym : Bytes (mixB (applyAll (zs 64) p) (applyAll (zs 64) q) (hasAll fs q) 64) := by rw [m1]; exact applyAll_bytes _ _ (zs_bytes 64) (yp.both yq)
      refine walk_as d e hd he (strOfNums (tell (applyAll (zs 64) (p ++ q)) (hasAll fs (p ++ q)))) 0 true (Or.inl ⟨rfl, rfl⟩) (by show _ = _; unfold composed; rw [hp, hq]) (fun w => ?_) w
      have := rcompose_good d e hd he _ _ _ _ a1 a2 g1 g2 ym v1 v2 w
      rw [m1, m2] at this
      exact this

set_option maxRecDepth 100000 in
theorem lifted (os : Os) (started : os.Started) (H : Type) (enc : TypeId × Value → H) :
    ReturnsInHanded {} Try.checked os 5 .any (Rows.deltaComposesSpec.pre6 enc Try.prog Try.f5 Rows.deltaComposesRow.domain false) (Rows.deltaComposesSpec.post enc Try.prog Try.f5 false true false false) := by
  refine returnsInHanded_of_change (C := Try.checked) own started (by kernel_rfl) Try.func5
    (ChangeSpec.witness6 (enc := enc) (C := Try.checked) false ⟨#[], #[.string ByteArray.empty, .string ByteArray.empty], []⟩ 8 (by kernel_rfl) (by kernel_rfl) (by kernel_rfl) (by kernel_rfl)) ?_
  intro W base args ds gs before hval0 hW hcnd _
  have hval : ∀ (j : Nat) t v, Try.f5.params[j]? = some t → args[j]? = some v → Value.okWide Try.prog W .any base t v := hval0
  have hW' := hW
  obtain ⟨p, q, hA0, hV, rfl, hfz, hnd⟩ := hW
  have hA : DataW.TrodAll enc Try.prog W 0 (fun _ => true) true Try.f5.params.toList args.toList ds p := hA0
  rw [Try.params5] at hA hval
  obtain ⟨v0, vs0, d0, ds0, p0, q0, hargs, rfl, rfl, h0, r0⟩ := trodAll_cons hA
  obtain ⟨v1, vs1, d1, ds1, p1, q1, rfl, rfl, rfl, h1, r1⟩ := trodAll_cons r0
  obtain ⟨rfl, rfl, rfl⟩ := trodAll_nil r1
  obtain rfl : args = #[v0, v1] := by cases args; simp_all
  obtain ⟨rfl, rfl⟩ := trodVars_none hV
  obtain ⟨a0, rfl, rfl, rfl, w0⟩ := open_string Try.underlying9 (hval 0 9 v0 rfl rfl) h0
  obtain ⟨a1, rfl, rfl, rfl, w1⟩ := open_string Try.underlying9 (hval 1 9 v1 rfl rfl) h1
  clear hA0 hval0
  simp only [List.append_nil] at hW'
  refine (walk a0 a1 w0 w1 W).mono fun e W' ⟨he, hg⟩ => ?_
  subst he
  exact ⟨_, rfl, ⟨_, _, _, [], [], [], hW', (trodAll_cons_mk (shut_bool Try.underlying4 _) trodAll_mk0), (trodAll_cons_mk (shut_string Try.underlying9 w0) (trodAll_cons_mk (shut_string Try.underlying9 w1) trodAll_mk0)), rfl,
    hg.frame _, fun h => by cases h⟩⟩

theorem over : Rows.deltaComposesRow.holds Try.pinned (OpenSpec.ofChange Rows.deltaComposesSpec) :=
  OpenClaim.holds_of_wide 5 Try.f5 rfl rfl rfl rfl rfl rfl rfl ⟨rfl, rfl, rfl, rfl, rfl⟩ rfl rfl rfl rfl rfl (by kernel_rfl) Try.func5 (by kernel_rfl)
    (of_decide_eq_true (by kernel_rfl)) (by unfold Func.isWrapper; first | (rw [if_pos (by decide +kernel)]; kernel_rfl) | (rw [if_neg (by decide +kernel)]; exact ⟨rfl, rfl⟩))
    (fun os started H enc _ => lifted os started H enc)

/-- The statement. -/
theorem proved : Rows.DeltaComposesSaid :=
  over
#print axioms proved
end Go.Proofs.Ytdopghiconcjlaa.deltaComposes
