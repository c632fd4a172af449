/-
  Proved: for every uint64 v and all ints n and m the Go function varvelaw01.WordJoined returns true and leaves its arguments as they were; no condition.
-/
import Derived.Test.YtahiahkjglenoaaRows
import Derived.WalkKit
import Derived.ProofKit
import Derived.OpenShut
import Derived.ShutString
import Derived.Test.YtahiahkjglenoaaAwake
namespace Go.Proofs.Ytahiahkjglenoaa.wordJoined
open Go.ChangeShapes Go.WideShapes Go.ChangeAt Go.RowKit
open Go.ChangeMaps (open_string shut_string)
set_option linter.unusedVariables false

theorem own : ownKnob Try.prog.godebug = none := by kernel_rfl

theorem low_join (v : Int) (n : Nat) : ∀ m, low v n ++ low (v / 2 ^ (4 * n) / 2 ^ (4 * n)) m = low v (n + m)
  | 0 => by simp [low]
  | m + 1 => by
    rw [low_succ, ← List.append_assoc, low_join v n m, show n + (m + 1) = (n + m) + 1 by omega, low_succ v (n + m)]
    congr 3
    rw [Int.ediv_ediv_of_nonneg (Int.pow_nonneg (by decide)), Int.ediv_ediv_of_nonneg (Int.pow_nonneg (by decide)), ← Int.pow_add, ← Int.pow_add]
    congr 2
    omega
theorem joined_str (v : Int) (n m : Nat) : strOfNums (low v n) ++ strOfNums (low (v / 2 ^ (4 * n) / 2 ^ (4 * n)) m) = strOfNums (low v (n + m)) := by
  rw [← strOfNums_append, low_join]

theorem put_sum (v : Int) (n m : Nat) (w : World) (h : 0 ≤ v ∧ v ≤ 18446744073709551615) (hn : n + m ≤ 8) :
    Calls Try.prog 9 #[.int .u64 v, .int .i64 ((n : Int) + (m : Int))] w fun e w' => e = .returned (.string (strOfNums (low v (n + m)))) ∧ Grown w w' := by
  have h := put_any v (n + m) w h.1 h.2 hn
  rw [Int.natCast_add] at h
  exact h
set_option maxHeartbeats 4000000 in
theorem walk (a0 : Int) (a1 : Int) (a2 : Int) (w0 : (Lit.int .u64 a0).wf = true) (w1 : (Lit.int .i64 a1).wf = true) (w2 : (Lit.int .i64 a2).wf = true) (w : World) :
    Calls Try.prog 7 #[.int .u64 a0, .int .i64 a1, .int .i64 a2] w fun e w' => e = .returned (.bool true) ∧ Grown w w' := by
  have b0 := bounds_u64 w0
  have b1 := bounds_i64 w1
  have b2 := bounds_i64 w2
  clear w0 w1 w2
  by_cases h1 : a1 < 0
  · go_enter Try.func7, Try.ntmps7
    go_wp2_with (go_at_call 19; refine (awake_any _).mono ?_; rintro e wa ⟨rfl, ha⟩)
    go_ret
    exact ⟨rfl, ha⟩
  · by_cases h2 : a2 < 0
    · go_enter Try.func7, Try.ntmps7
      go_wp2_with (go_at_call 19; refine (awake_any _).mono ?_; rintro e wa ⟨rfl, ha⟩)
      go_ret
      exact ⟨rfl, ha⟩
    · by_cases h3 : 8 < a1
      · go_enter Try.func7, Try.ntmps7
        go_wp2_with (go_at_call 19; refine (awake_any _).mono ?_; rintro e wa ⟨rfl, ha⟩)
        go_ret
        exact ⟨rfl, ha⟩
      · by_cases h4 : 8 - a1 < a2
        · go_enter Try.func7, Try.ntmps7
          go_wp2_with (go_at_call 19; refine (awake_any _).mono ?_; rintro e wa ⟨rfl, ha⟩)
          go_ret
          exact ⟨rfl, ha⟩
        · obtain ⟨n, rfl⟩ := Int.eq_ofNat_of_zero_le (show 0 ≤ a1 by omega)
          obtain ⟨m, rfl⟩ := Int.eq_ofNat_of_zero_le (show 0 ≤ a2 by omega)
          have n8 : n ≤ 8 := by omega
          have m8 : m ≤ 8 := by omega
          have nm8 : n + m ≤ 8 := by omega
          have q0 := div_fits a0 (4 * n) b0.1 b0.2
          have q1 := div_fits (a0 / 2 ^ (4 * n)) (4 * n) q0.1 q0.2
          have z1 : (strOfNums (low a0 n)).size = n := by rw [strOfNums_size, low_length]
          have z2 : (strOfNums (low (a0 / 2 ^ (4 * n) / 2 ^ (4 * n)) m)).size = m := by rw [strOfNums_size, low_length]
          have J := joined_str a0 n m
          have H0 : Hid (0 ≤ a0 ∧ a0 ≤ 18446744073709551615) := b0
          have H1 : Hid (0 ≤ a0 / 2 ^ (4 * n) / 2 ^ (4 * n) ∧ a0 / 2 ^ (4 * n) / 2 ^ (4 * n) ≤ 18446744073709551615) := q1
          have i1 : IntKind.i64.wrap (4 * (n : Int)) = 4 * (n : Int) := by rw [IntKind.wrap_i64]; omega
          have i2 : IntKind.i64.wrap ((n : Int) + (m : Int)) = (n : Int) + (m : Int) := by rw [IntKind.wrap_i64]; omega
          have tn : (4 * (n : Int)).toNat = 4 * n := by omega
          clear b1 b2 q0 q1
          go_enter Try.func7, Try.ntmps7
          go_wp2_with fail
          go_region_with (first
            | (go_at_call 19; refine (awake_any _).mono ?_; rintro e wa ⟨rfl, ha⟩)
            | (go_at_call_of 9 (Value.int .i64 ((n : Int) + (m : Int))); refine (put_sum a0 n m _ H0.out nm8).mono ?_; rintro e wc ⟨rfl, hc⟩)
            | (go_at_call_of 9 (Value.int .i64 (m : Int)); refine (put_any _ m _ H1.out.1 H1.out.2 m8).mono ?_; rintro e wb ⟨rfl, hb⟩)
            | (go_at_call_of 9 (Value.int .i64 (n : Int)); go_at_call_of 9 (Value.int .u64 a0); refine (put_any a0 n _ H0.out.1 H0.out.2 n8).mono ?_; rintro e wd ⟨rfl, hd⟩))
          all_goals go_wp2_with fail
          all_goals go_ret
          all_goals exact ⟨rfl, grown_trans (grown_trans (grown_trans hd hb) hc) ha⟩

/-! ### THE ROW's STEP: WRITTEN OUT: LEAVE IT -/
set_option maxRecDepth 100000 in
theorem lifted (os : Os) (started : os.Started) (H : Type) (enc : TypeId × Value → H) :
    ReturnsInHanded {} Try.checked os 7 .any (Rows.wordJoinedSpec.pre6 enc Try.prog Try.f7 Rows.wordJoinedRow.domain false) (Rows.wordJoinedSpec.post enc Try.prog Try.f7 false true false false) := by
  refine returnsInHanded_of_change (C := Try.checked) own started (by kernel_rfl) Try.func7
    (ChangeSpec.witness6 (enc := enc) (C := Try.checked) false ⟨#[], #[.int .u64 0, .int .i64 0, .int .i64 0], []⟩ 8 (by kernel_rfl) (by kernel_rfl) (by kernel_rfl) (by kernel_rfl)) ?_
  intro W base args ds gs before hval0 hW hcnd _
  have hval : ∀ (j : Nat) t v, Try.f7.params[j]? = some t → args[j]? = some v → Value.okWide Try.prog W .any base t v := hval0
  have hW' := hW
  obtain ⟨p, q, hA0, hV, rfl, hfz, hnd⟩ := hW
  have hA : DataW.TrodAll enc Try.prog W 0 (fun _ => true) true Try.f7.params.toList args.toList ds p := hA0
  rw [Try.params7] at hA hval
  obtain ⟨v0, vs0, d0, ds0, p0, q0, hargs, rfl, rfl, h0, r0⟩ := trodAll_cons hA
  obtain ⟨v1, vs1, d1, ds1, p1, q1, rfl, rfl, rfl, h1, r1⟩ := trodAll_cons r0
  obtain ⟨v2, vs2, d2, ds2, p2, q2, rfl, rfl, rfl, h2, r2⟩ := trodAll_cons r1
  obtain ⟨rfl, rfl, rfl⟩ := trodAll_nil r2
  obtain rfl : args = #[v0, v1, v2] := by cases args; simp_all
  obtain ⟨rfl, rfl⟩ := trodVars_none hV
  obtain ⟨a0, rfl, rfl, rfl, w0⟩ := open_int Try.underlying22 (hval 0 22 v0 rfl rfl) h0
  obtain ⟨a1, rfl, rfl, rfl, w1⟩ := open_int Try.underlying3 (hval 1 3 v1 rfl rfl) h1
  obtain ⟨a2, rfl, rfl, rfl, w2⟩ := open_int Try.underlying3 (hval 2 3 v2 rfl rfl) h2
  clear hA0 hval0
  simp only [List.append_nil] at hW'
  refine (walk a0 a1 a2 w0 w1 w2 W).mono fun e W' ⟨he, hg⟩ => ?_
  subst he
  exact ⟨_, rfl, post_of_same (pa := []) (pv := []) hW' (fun _ _ _ => (trodAll_cons_mk (shut_bool Try.underlying4 _) trodAll_mk0)) (fun sp _ => (trodAll_cons_mk (shut_int Try.underlying22 w0) (trodAll_cons_mk (shut_int Try.underlying3 w1) (trodAll_cons_mk (shut_int Try.underlying3 w2) trodAll_mk0)))) (fun _ _ => rfl) rfl
    (hg.frame _) hg.2.1 (ok_one (by kernel_rfl) rfl (okWide_bool_mk Try.underlying4 _))⟩

theorem over : Rows.wordJoinedRow.holds Try.pinned (OpenSpec.ofChange Rows.wordJoinedSpec) :=
  OpenClaim.holds_of_wide 7 Try.f7 rfl rfl rfl rfl rfl rfl rfl ⟨rfl, rfl, rfl, rfl, rfl⟩ rfl rfl rfl rfl rfl (by kernel_rfl) Try.func7 (by kernel_rfl)
    (of_decide_eq_true (by kernel_rfl)) (by unfold Func.isWrapper; first | (rw [if_pos (by decide +kernel)]; kernel_rfl) | (rw [if_neg (by decide +kernel)]; exact ⟨rfl, rfl⟩))
    (fun os started H enc _ => lifted os started H enc)

/-- ████ THE STATEMENT ████ -/
theorem proved : Rows.WordJoinedSaid :=
  over
#print axioms proved
end Go.Proofs.Ytahiahkjglenoaa.wordJoined
