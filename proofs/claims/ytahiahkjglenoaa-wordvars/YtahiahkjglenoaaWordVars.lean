/-
  Proved: for every uint64 v, every text s and every int at the Go function varvelaw01.WordVars returns true and leaves its arguments as they were; no condition.
-/
import Derived.Test.YtahiahkjglenoaaRows
import Derived.WalkKit
import Derived.ProofKit
import Derived.OpenShut
import Derived.ShutString
import Derived.Test.YtahiahkjglenoaaRefTake
namespace Go.Proofs.Ytahiahkjglenoaa.wordVars
open Go.ChangeShapes Go.WideShapes Go.ChangeAt Go.RowKit
open Go.ChangeMaps (open_string shut_string)
set_option linter.unusedVariables false

theorem own : ownKnob Try.prog.godebug = none := by kernel_rfl

/-- What is told of a text and any place. -/
def an (s : ByteArray) (a : Int) : Option (Int × Nat) := if 0 ≤ a then tk s a.toNat 10 0 else none
def t1 (r : Option (Int × Nat)) : Int := match r with | some (v, _) => v | none => 0
def t2 (r : Option (Int × Nat)) : Int := match r with | some (_, n) => n | none => 0
def t3 (r : Option (Int × Nat)) : Bool := match r with | some _ => true | none => false
theorem told_t (r : Option (Int × Nat)) : told r = .tuple #[.int .u64 (t1 r), .int .i64 (t2 r), .bool (t3 r)] := by
  cases r with
  | none => rfl
  | some p => rfl
theorem tk_beyond (s : ByteArray) (a : Nat) (h : s.size ≤ a) : tk s a 10 0 = none := by
  rw [show (10 : Nat) = 9 + 1 from rfl, tk, if_pos (by omega)]
theorem take_all (s : ByteArray) (a : Int) (w : World) (hs : s.size ≤ maxLen) :
    Calls Try.prog 15 #[.string s, .int .i64 a] w fun e w' => e = .returned (.tuple #[.int .u64 (t1 (an s a)), .int .i64 (t2 (an s a)), .bool (t3 (an s a))]) ∧ w' = w := by
  rw [← told_t]
  by_cases h : a < 0 ∨ (s.size : Int) ≤ a
  · have e : an s a = none := by
      unfold an
      by_cases h0 : 0 ≤ a
      · rw [if_pos h0, tk_beyond s _ (by omega)]
      · rw [if_neg h0]
    rw [e]
    exact take_none s a w hs h
  · obtain ⟨n, rfl⟩ := Int.eq_ofNat_of_zero_le (show 0 ≤ a by omega)
    have e : an s (n : Int) = tk s n 10 0 := by unfold an; rw [if_pos (by omega)]; rfl
    rw [e]
    exact take_any s n w hs (by omega)
theorem rtake_all (s : ByteArray) (a : Int) (w : World) (hs : s.size ≤ maxLen) (ha : a ≤ 9223372036854775807) :
    Calls Try.prog 16 #[.string s, .int .i64 a] w fun e w' => e = .returned (.tuple #[.int .u64 (t1 (an s a)), .int .i64 (t2 (an s a)), .bool (t3 (an s a))]) ∧ Grown w w' := by
  rw [← told_t]
  by_cases h : a < 0 ∨ (s.size : Int) < a
  · have e : an s a = none := by
      unfold an
      by_cases h0 : 0 ≤ a
      · rw [if_pos h0, tk_beyond s _ (by omega)]
      · rw [if_neg h0]
    rw [e]
    refine (rtake_none s a w hs h ha).mono ?_
    rintro e w' ⟨rfl, rfl⟩
    exact ⟨rfl, Grown.refl _⟩
  · obtain ⟨n, rfl⟩ := Int.eq_ofNat_of_zero_le (show 0 ≤ a by omega)
    have e : an s (n : Int) = tk s n 10 0 := by unfold an; rw [if_pos (by omega)]; rfl
    rw [e]
    exact rtake_any s n w hs (by omega)
theorem walk (a0 : Int) (a1 : ByteArray) (a2 : Int) (w0 : (Lit.int .u64 a0).wf = true) (w1 : a1.size ≤ maxLen) (w2 : (Lit.int .i64 a2).wf = true) (w : World) :
    Calls Try.prog 5 #[.int .u64 a0, .string a1, .int .i64 a2] w fun e w' => e = .returned (.bool true) ∧ Grown w w' := by
  have b0 := bounds_u64 w0
  have b2 := bounds_i64 w2
  obtain ⟨m, hm⟩ : ∃ m : Nat, ng a0 = (m : Int) + 1 := ⟨(ng a0).toNat - 1, by have := ng_bounds a0 b0.1 b0.2; omega⟩
  have HM : Hid (ng a0 = (m : Int) + 1) := hm
  have H0 : Hid (0 ≤ a0 ∧ a0 ≤ 18446744073709551615) := b0
  have H1 : Hid (a1.size ≤ maxLen) := w1
  have H2 : Hid (a2 ≤ 9223372036854775807) := b2.2
  clear hm b0 b2 w0 w1 w2
  go_enter Try.func5, Try.ntmps5
  go_wp2_with (first
    | (go_at_call 15; refine (take_all _ _ _ H1.out).mono ?_; rintro e wa ⟨rfl, rfl⟩)
    | (go_at_call 16; refine (rtake_all _ _ _ H1.out H2.out).mono ?_; rintro e wb ⟨rfl, hb⟩)
    | (go_at_call 17; refine (var_any _ m _ H0.out.1 H0.out.2 HM.out).mono ?_; rintro e wc ⟨rfl, hc⟩)
    | (go_at_call 18; refine (rvar_any m _ _ H0.out.1 H0.out.2 HM.out).mono ?_; rintro e wd ⟨rfl, hd⟩))
  go_ret
  exact ⟨rfl, grown_trans (grown_trans hb hc) hd⟩

/-! ### THE ROW's STEP: WRITTEN OUT: LEAVE IT -/
set_option maxRecDepth 100000 in
theorem lifted (os : Os) (started : os.Started) (H : Type) (enc : TypeId × Value → H) :
    ReturnsInHanded {} Try.checked os 5 .any (Rows.wordVarsSpec.pre6 enc Try.prog Try.f5 Rows.wordVarsRow.domain false) (Rows.wordVarsSpec.post enc Try.prog Try.f5 false true false false) := by
  refine returnsInHanded_of_change (C := Try.checked) own started (by kernel_rfl) Try.func5
    (ChangeSpec.witness6 (enc := enc) (C := Try.checked) false ⟨#[], #[.int .u64 0, .string ByteArray.empty, .int .i64 0], []⟩ 8 (by kernel_rfl) (by kernel_rfl) (by kernel_rfl) (by kernel_rfl)) ?_
  intro W base args ds gs before hval0 hW hcnd _
  have hval : ∀ (j : Nat) t v, Try.f5.params[j]? = some t → args[j]? = some v → Value.okWide Try.prog W .any base t v := hval0
  have hW' := hW
  obtain ⟨p, q, hA0, hV, rfl, hfz, hnd⟩ := hW
  have hA : DataW.TrodAll enc Try.prog W 0 (fun _ => true) true Try.f5.params.toList args.toList ds p := hA0
  rw [Try.params5] at hA hval
  obtain ⟨v0, vs0, d0, ds0, p0, q0, hargs, rfl, rfl, h0, r0⟩ := trodAll_cons hA
  obtain ⟨v1, vs1, d1, ds1, p1, q1, rfl, rfl, rfl, h1, r1⟩ := trodAll_cons r0
  obtain ⟨v2, vs2, d2, ds2, p2, q2, rfl, rfl, rfl, h2, r2⟩ := trodAll_cons r1
  obtain ⟨rfl, rfl, rfl⟩ := trodAll_nil r2
  obtain rfl : args = #[v0, v1, v2] := by cases args; simp_all
  obtain ⟨rfl, rfl⟩ := trodVars_none hV
  obtain ⟨a0, rfl, rfl, rfl, w0⟩ := open_int Try.underlying22 (hval 0 22 v0 rfl rfl) h0
  obtain ⟨a1, rfl, rfl, rfl, w1⟩ := open_string Try.underlying9 (hval 1 9 v1 rfl rfl) h1
  obtain ⟨a2, rfl, rfl, rfl, w2⟩ := open_int Try.underlying3 (hval 2 3 v2 rfl rfl) h2
  clear hA0 hval0
  simp only [List.append_nil] at hW'
  refine (walk a0 a1 a2 w0 w1 w2 W).mono fun e W' ⟨he, hg⟩ => ?_
  subst he
  exact ⟨_, rfl, post_of_same (pa := []) (pv := []) hW' (fun _ _ _ => (trodAll_cons_mk (shut_bool Try.underlying4 _) trodAll_mk0)) (fun sp _ => (trodAll_cons_mk (shut_int Try.underlying22 w0) (trodAll_cons_mk (shut_string Try.underlying9 w1) (trodAll_cons_mk (shut_int Try.underlying3 w2) trodAll_mk0)))) (fun _ _ => rfl) rfl
    (hg.frame _) hg.2.1 (ok_one (by kernel_rfl) rfl (okWide_bool_mk Try.underlying4 _))⟩

theorem over : Rows.wordVarsRow.holds Try.pinned (OpenSpec.ofChange Rows.wordVarsSpec) :=
  OpenClaim.holds_of_wide 5 Try.f5 rfl rfl rfl rfl rfl rfl rfl ⟨rfl, rfl, rfl, rfl, rfl⟩ rfl rfl rfl rfl rfl (by kernel_rfl) Try.func5 (by kernel_rfl)
    (of_decide_eq_true (by kernel_rfl)) (by unfold Func.isWrapper; first | (rw [if_pos (by decide +kernel)]; kernel_rfl) | (rw [if_neg (by decide +kernel)]; exact ⟨rfl, rfl⟩))
    (fun os started H enc _ => lifted os started H enc)

/-- ████ THE STATEMENT ████ -/
theorem proved : Rows.WordVarsSaid :=
  over
#print axioms proved
end Go.Proofs.Ytahiahkjglenoaa.wordVars
