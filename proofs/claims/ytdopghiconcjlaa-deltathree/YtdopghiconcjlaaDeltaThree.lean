/-
  Proved: for all texts the Go function varvelaw03.DeltaThree returns true and leaves its arguments as they were; no condition.
-/
import Derived.Test.YtdopghiconcjlaaThree
import Derived.Test.YtdopghiconcjlaaShut
namespace Go.Proofs.Ytdopghiconcjlaa.deltaThree
open Go.ChangeShapes Go.WideShapes Go.ChangeAt Go.RowKit
open Go.ChangeMaps (open_string shut_string)
set_option linter.unusedVariables false
set_option linter.unusedSimpArgs false

theorem own : ownKnob Try.prog.godebug = none := by kernel_rfl

set_option maxHeartbeats 2000000 in
theorem walk_all (d e f X Y Z : ByteArray) (hd : Hid (d.size ≤ maxLen)) (he : Hid (e.size ≤ maxLen)) (hf : Hid (f.size ≤ maxLen)) (hX : Hid (X.size ≤ maxLen)) (hY : Hid (Y.size ≤ maxLen))
    (C1 : Hid ((pieces d).isSome = true)) (C2 : Hid ((pieces e).isSome = true)) (C3 : Hid ((pieces f).isSome = true))
    (D1 : Hid (composed d e = .tuple #[.string X, .int .i64 0])) (D2 : Hid (composed e f = .tuple #[.string Y, .int .i64 0])) (D3 : Hid (composed X f = .tuple #[.string Z, .int .i64 0])) (D4 : Hid (composed d Y = .tuple #[.string Z, .int .i64 0]))
    (D5 : Hid (composed d ⟨#[]⟩ = .tuple #[.string d, .int .i64 0])) (D6 : Hid (composed ⟨#[]⟩ d = .tuple #[.string d, .int .i64 0])) (h0 : Hid ((⟨#[]⟩ : ByteArray).size ≤ maxLen)) (w : World) :
    Calls Try.prog 8 #[.string d, .string e, .string f] w fun x w' => x = .returned (.bool true) ∧ Below w.heap.size w w' := by
    have t1 : Hid (1 = 1) := rfl
    have bb0 : Below w.heap.size w w := Below.refl _ _
    have ll0 : w.heap.size ≤ w.heap.size := Nat.le_refl _
    go_enter Try.func8, Try.ntmps8
    go_wp2_with (first
      | (have hh := t1; clear hh t1; go_at_call 13; refine (check_any d hd.out _).mono ?_; rw [C1.out]; rintro x w1 ⟨rfl, h1⟩
         have t2 : Hid (1 = 1) := rfl
         have bb1 := bb0.trans (h1.mono ll0)
         have ll1 : w.heap.size ≤ w1.heap.size := Nat.le_trans ll0 h1.size
         clear bb0 ll0 h1)
      | (have hh := t2; clear hh t2; go_at_call 13; refine (check_any e he.out _).mono ?_; rw [C2.out]; rintro x w2 ⟨rfl, h1⟩
         have t3 : Hid (1 = 1) := rfl
         have bb2 := bb1.trans (h1.mono ll1)
         have ll2 : w.heap.size ≤ w2.heap.size := Nat.le_trans ll1 h1.size
         clear bb1 ll1 h1)
      | (have hh := t3; clear hh t3; go_at_call 13; refine (check_any f hf.out _).mono ?_; rw [C3.out]; rintro x w3 ⟨rfl, h1⟩
         have t4 : Hid (1 = 1) := rfl
         have bb3 := bb2.trans (h1.mono ll2)
         have ll3 : w.heap.size ≤ w3.heap.size := Nat.le_trans ll2 h1.size
         clear bb2 ll2 h1)
      | (have hh := t4; clear hh t4; go_at_call 15; refine (compose_any d e hd.out he.out _).mono ?_; rw [D1.out]; rintro x w4 ⟨rfl, h1⟩
         have t5 : Hid (1 = 1) := rfl
         have bb4 := bb3.trans (h1.mono ll3)
         have ll4 : w.heap.size ≤ w4.heap.size := Nat.le_trans ll3 h1.size
         clear bb3 ll3 h1)
      | (have hh := t5; clear hh t5; go_at_call 15; refine (compose_any e f he.out hf.out _).mono ?_; rw [D2.out]; rintro x w5 ⟨rfl, h1⟩
         have t6 : Hid (1 = 1) := rfl
         have bb5 := bb4.trans (h1.mono ll4)
         have ll5 : w.heap.size ≤ w5.heap.size := Nat.le_trans ll4 h1.size
         clear bb4 ll4 h1)
      | (have hh := t6; clear hh t6; go_at_call 15; refine (compose_any X f hX.out hf.out _).mono ?_; rw [D3.out]; rintro x w6 ⟨rfl, h1⟩
         have t7 : Hid (1 = 1) := rfl
         have bb6 := bb5.trans (h1.mono ll5)
         have ll6 : w.heap.size ≤ w6.heap.size := Nat.le_trans ll5 h1.size
         clear bb5 ll5 h1)
      | (have hh := t7; clear hh t7; go_at_call 15; refine (compose_any d Y hd.out hY.out _).mono ?_; rw [D4.out]; rintro x w7 ⟨rfl, h1⟩
         have t8 : Hid (1 = 1) := rfl
         have bb7 := bb6.trans (h1.mono ll6)
         have ll7 : w.heap.size ≤ w7.heap.size := Nat.le_trans ll6 h1.size
         clear bb6 ll6 h1)
      | (have hh := t8; clear hh t8; go_at_call 15; refine (compose_any d ⟨#[]⟩ hd.out h0.out _).mono ?_; rw [D5.out]; rintro x w8 ⟨rfl, h1⟩
         have t9 : Hid (1 = 1) := rfl
         have bb8 := bb7.trans (h1.mono ll7)
         have ll8 : w.heap.size ≤ w8.heap.size := Nat.le_trans ll7 h1.size
         clear bb7 ll7 h1)
      | (have hh := t9; clear hh t9; go_at_call 15; refine (compose_any ⟨#[]⟩ d h0.out hd.out _).mono ?_; rw [D6.out]; rintro x w9 ⟨rfl, h1⟩
         have t10 : Hid (1 = 1) := rfl
         have bb9 := bb8.trans (h1.mono ll8)
         have ll9 : w.heap.size ≤ w9.heap.size := Nat.le_trans ll8 h1.size
         clear bb8 ll8 h1)
      | (have hh := t10; clear hh t10; go_at_call 14; refine (awake_any _).mono ?_; rintro x w10 ⟨rfl, h1⟩
         have bb10 := bb9.trans (h1.mono ll9)
         clear bb9 ll9 h1))
    go_ret
    exact ⟨by simp, bb10⟩

set_option maxHeartbeats 1000000 in
theorem walk_1 (d e f : ByteArray) (hd : Hid (d.size ≤ maxLen)) (C1 : Hid ((pieces d).isSome = false)) (w : World) :
    Calls Try.prog 8 #[.string d, .string e, .string f] w fun x w' => x = .returned (.bool true) ∧ Below w.heap.size w w' := by
    have t1 : Hid (1 = 1) := rfl
    have bb0 : Below w.heap.size w w := Below.refl _ _
    have ll0 : w.heap.size ≤ w.heap.size := Nat.le_refl _
    go_enter Try.func8, Try.ntmps8
    go_wp2_with (first
      | (have hh := t1; clear hh t1; go_at_call 13; refine (check_any d hd.out _).mono ?_; rw [C1.out]; rintro x w1 ⟨rfl, h1⟩
         have t2 : Hid (1 = 1) := rfl
         have bb1 := bb0.trans (h1.mono ll0)
         have ll1 : w.heap.size ≤ w1.heap.size := Nat.le_trans ll0 h1.size
         clear bb0 ll0 h1)
      | (have hh := t2; clear hh t2; go_at_call 14; refine (awake_any _).mono ?_; rintro x w2 ⟨rfl, h1⟩
         have bb2 := bb1.trans (h1.mono ll1)
         clear bb1 ll1 h1))
    go_ret
    exact ⟨by simp, bb2⟩

set_option maxHeartbeats 1000000 in
theorem walk_2 (d e f : ByteArray) (hd : Hid (d.size ≤ maxLen)) (he : Hid (e.size ≤ maxLen)) (C1 : Hid ((pieces d).isSome = true)) (C2 : Hid ((pieces e).isSome = false)) (w : World) :
    Calls Try.prog 8 #[.string d, .string e, .string f] w fun x w' => x = .returned (.bool true) ∧ Below w.heap.size w w' := by
    have t1 : Hid (1 = 1) := rfl
    have bb0 : Below w.heap.size w w := Below.refl _ _
    have ll0 : w.heap.size ≤ w.heap.size := Nat.le_refl _
    go_enter Try.func8, Try.ntmps8
    go_wp2_with (first
      | (have hh := t1; clear hh t1; go_at_call 13; refine (check_any d hd.out _).mono ?_; rw [C1.out]; rintro x w1 ⟨rfl, h1⟩
         have t2 : Hid (1 = 1) := rfl
         have bb1 := bb0.trans (h1.mono ll0)
         have ll1 : w.heap.size ≤ w1.heap.size := Nat.le_trans ll0 h1.size
         clear bb0 ll0 h1)
      | (have hh := t2; clear hh t2; go_at_call 13; refine (check_any e he.out _).mono ?_; rw [C2.out]; rintro x w2 ⟨rfl, h1⟩
         have t3 : Hid (1 = 1) := rfl
         have bb2 := bb1.trans (h1.mono ll1)
         have ll2 : w.heap.size ≤ w2.heap.size := Nat.le_trans ll1 h1.size
         clear bb1 ll1 h1)
      | (have hh := t3; clear hh t3; go_at_call 14; refine (awake_any _).mono ?_; rintro x w3 ⟨rfl, h1⟩
         have bb3 := bb2.trans (h1.mono ll2)
         clear bb2 ll2 h1))
    go_ret
    exact ⟨by simp, bb3⟩

set_option maxHeartbeats 1000000 in
theorem walk_3 (d e f : ByteArray) (hd : Hid (d.size ≤ maxLen)) (he : Hid (e.size ≤ maxLen)) (hf : Hid (f.size ≤ maxLen)) (C1 : Hid ((pieces d).isSome = true)) (C2 : Hid ((pieces e).isSome = true)) (C3 : Hid ((pieces f).isSome = false)) (w : World) :
    Calls Try.prog 8 #[.string d, .string e, .string f] w fun x w' => x = .returned (.bool true) ∧ Below w.heap.size w w' := by
    have t1 : Hid (1 = 1) := rfl
    have bb0 : Below w.heap.size w w := Below.refl _ _
    have ll0 : w.heap.size ≤ w.heap.size := Nat.le_refl _
    go_enter Try.func8, Try.ntmps8
    go_wp2_with (first
      | (have hh := t1; clear hh t1; go_at_call 13; refine (check_any d hd.out _).mono ?_; rw [C1.out]; rintro x w1 ⟨rfl, h1⟩
         have t2 : Hid (1 = 1) := rfl
         have bb1 := bb0.trans (h1.mono ll0)
         have ll1 : w.heap.size ≤ w1.heap.size := Nat.le_trans ll0 h1.size
         clear bb0 ll0 h1)
      | (have hh := t2; clear hh t2; go_at_call 13; refine (check_any e he.out _).mono ?_; rw [C2.out]; rintro x w2 ⟨rfl, h1⟩
         have t3 : Hid (1 = 1) := rfl
         have bb2 := bb1.trans (h1.mono ll1)
         have ll2 : w.heap.size ≤ w2.heap.size := Nat.le_trans ll1 h1.size
         clear bb1 ll1 h1)
      | (have hh := t3; clear hh t3; go_at_call 13; refine (check_any f hf.out _).mono ?_; rw [C3.out]; rintro x w3 ⟨rfl, h1⟩
         have t4 : Hid (1 = 1) := rfl
         have bb3 := bb2.trans (h1.mono ll2)
         have ll3 : w.heap.size ≤ w3.heap.size := Nat.le_trans ll2 h1.size
         clear bb2 ll2 h1)
      | (have hh := t4; clear hh t4; go_at_call 14; refine (awake_any _).mono ?_; rintro x w4 ⟨rfl, h1⟩
         have bb4 := bb3.trans (h1.mono ll3)
         clear bb3 ll3 h1))
    go_ret
    exact ⟨by simp, bb4⟩

theorem some_is {o : Option (List (Nat × List Int))} {p : List (Nat × List Int)} (h : o = some p) : o.isSome = true := by rw [h]; rfl
theorem none_is {o : Option (List (Nat × List Int))} (h : o = none) : o.isSome = false := by rw [h]; rfl
theorem empty_pieces : pieces ⟨#[]⟩ = some [] := by decide
theorem empty_size : (⟨#[]⟩ : ByteArray).size ≤ maxLen := by show (0 : Nat) ≤ maxLen; exact Nat.zero_le _
theorem walk (d e f : ByteArray) (hd : d.size ≤ maxLen) (he : e.size ≤ maxLen) (hf : f.size ≤ maxLen) (w : World) :
    Calls Try.prog 8 #[.string d, .string e, .string f] w fun x w' => x = .returned (.bool true) ∧ Below w.heap.size w w' := by
  cases hp : pieces d with
  | none => exact walk_1 d e f hd (none_is hp) w
  | some p =>
    cases hq : pieces e with
    | none => exact walk_2 d e f hd he (some_is hp) (none_is hq) w
    | some q =>
      cases hr : pieces f with
      | none => exact walk_3 d e f hd he hf (some_is hp) (some_is hq) (none_is hr) w
      | some r =>
        obtain ⟨fp, yp⟩ := pieces_ok d p hp
        obtain ⟨fq, yq⟩ := pieces_ok e q hq
        obtain ⟨fr, yr⟩ := pieces_ok f r hr
        obtain ⟨rs1, rs2, h1, h2, h3⟩ := cmp_three p q r fp yp fq yq fr yr
        have D3 := composed_cmp (cmp (p ++ q)) f rs1 r h1 hr
        have D4 := composed_cmp d (cmp (q ++ r)) p rs2 hp h2
        rw [← h3] at D4
        have D5 := composed_cmp d ⟨#[]⟩ p [] hp empty_pieces
        rw [List.append_nil, cmp_self d p hp] at D5
        have D6 := composed_cmp ⟨#[]⟩ d [] p empty_pieces hp
        rw [List.nil_append, cmp_self d p hp] at D6
        exact walk_all d e f (cmp (p ++ q)) (cmp (q ++ r)) (cmp (rs1 ++ r)) hd he hf (cmp_short _ (fp.both fq)) (cmp_short _ (fq.both fr)) (some_is hp) (some_is hq) (some_is hr)
          (composed_cmp d e p q hp hq) (composed_cmp e f q r hq hr) D3 D4 D5 D6 empty_size w

set_option maxRecDepth 100000 in
theorem lifted (os : Os) (started : os.Started) (H : Type) (enc : TypeId × Value → H) :
    ReturnsInHanded {} Try.checked os 8 .any (Rows.deltaThreeSpec.pre6 enc Try.prog Try.f8 Rows.deltaThreeRow.domain false) (Rows.deltaThreeSpec.post enc Try.prog Try.f8 false true false false) := by
  refine returnsInHanded_of_change (C := Try.checked) own started (by kernel_rfl) Try.func8
    (ChangeSpec.witness6 (enc := enc) (C := Try.checked) false ⟨#[], #[.string ByteArray.empty, .string ByteArray.empty, .string ByteArray.empty], []⟩ 8 (by kernel_rfl) (by kernel_rfl) (by kernel_rfl) (by kernel_rfl)) ?_
  intro W base args ds gs before hval0 hW hcnd _
  have hval : ∀ (j : Nat) t v, Try.f8.params[j]? = some t → args[j]? = some v → Value.okWide Try.prog W .any base t v := hval0
  have hW' := hW
  obtain ⟨p, q, hA0, hV, rfl, hfz, hnd⟩ := hW
  have hA : DataW.TrodAll enc Try.prog W 0 (fun _ => true) true Try.f8.params.toList args.toList ds p := hA0
  rw [Try.params8] at hA hval
  obtain ⟨v0, vs0, d0, ds0, p0, q0, hargs, rfl, rfl, h0, r0⟩ := trodAll_cons hA
  obtain ⟨v1, vs1, d1, ds1, p1, q1, rfl, rfl, rfl, h1, r1⟩ := trodAll_cons r0
  obtain ⟨v2, vs2, d2, ds2, p2, q2, rfl, rfl, rfl, h2, r2⟩ := trodAll_cons r1
  obtain ⟨rfl, rfl, rfl⟩ := trodAll_nil r2
  obtain rfl : args = #[v0, v1, v2] := by cases args; simp_all
  obtain ⟨rfl, rfl⟩ := trodVars_none hV
  obtain ⟨a0, rfl, rfl, rfl, w0⟩ := open_string Try.underlying9 (hval 0 9 v0 rfl rfl) h0
  obtain ⟨a1, rfl, rfl, rfl, w1⟩ := open_string Try.underlying9 (hval 1 9 v1 rfl rfl) h1
  obtain ⟨a2, rfl, rfl, rfl, w2⟩ := open_string Try.underlying9 (hval 2 9 v2 rfl rfl) h2
  clear hA0 hval0
  simp only [List.append_nil] at hW'
  refine (walk a0 a1 a2 w0 w1 w2 W).mono fun e W' ⟨he, hg⟩ => ?_
  subst he
  exact ⟨_, rfl, ⟨_, _, _, [], [], [], hW', (trodAll_cons_mk (shut_bool Try.underlying4 _) trodAll_mk0), (trodAll_cons_mk (shut_string Try.underlying9 w0) (trodAll_cons_mk (shut_string Try.underlying9 w1) (trodAll_cons_mk (shut_string Try.underlying9 w2) trodAll_mk0))), rfl,
    hg.frame _, fun h => by cases h⟩⟩

theorem over : Rows.deltaThreeRow.holds Try.pinned (OpenSpec.ofChange Rows.deltaThreeSpec) :=
  OpenClaim.holds_of_wide 8 Try.f8 rfl rfl rfl rfl rfl rfl rfl ⟨rfl, rfl, rfl, rfl, rfl⟩ rfl rfl rfl rfl rfl (by kernel_rfl) Try.func8 (by kernel_rfl)
    (of_decide_eq_true (by kernel_rfl)) (by unfold Func.isWrapper; first | (rw [if_pos (by decide +kernel)]; kernel_rfl) | (rw [if_neg (by decide +kernel)]; exact ⟨rfl, rfl⟩))
    (fun os started H enc _ => lifted os started H enc)

/-- The statement. -/
theorem proved : Rows.DeltaThreeSaid :=
  over
#print axioms proved
end Go.Proofs.Ytdopghiconcjlaa.deltaThree
