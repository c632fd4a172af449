/-
  Proved: for all uint64 v and w the Go function varvelaw01.WordShort returns true and leaves its arguments as they were; no condition.
-/
import Derived.Test.YtahiahkjglenoabRows
import Derived.WalkKit
import Derived.ProofKit
import Derived.OpenShut
import Derived.ShutString
import Derived.Test.YtahiahkjglenoabWord
namespace Go.Proofs.Ytahiahkjglenoab.wordShort
open Go.ChangeShapes Go.WideShapes Go.ChangeAt Go.RowKit
open Go.ChangeMaps (open_string shut_string)
set_option linter.unusedVariables false

theorem own : ownKnob Try.prog.godebug = none := by kernel_rfl

theorem blen_mono (n : Nat) : ∀ x y : Int, y.toNat ≤ n → 0 ≤ x → x ≤ y → y ≤ 18446744073709551615 → blen x ≤ blen y := by
  induction n with
  | zero =>
    intro x y h h0 h1 h2
    have : x = y := by omega
    rw [this]; omega
  | succ n ih =>
    intro x y h h0 h1 h2
    rcases Int.lt_or_le 0 x with q | q
    · rw [blen_half x q (by omega), blen_half y (by omega) h2]
      have := ih (x / 2) (y / 2) (by omega) (by omega) (by omega) (by omega)
      omega
    · have : x = 0 := by omega
      rw [this, blen_zero]
      exact (blen_bounds y (by omega) h2).1
theorem facts (v w : Int) (h0 : 0 ≤ v) (h1 : v ≤ w) (h2 : w ≤ 18446744073709551615) :
    ng v ≤ ng w ∧ wid v ≤ wid w ∧ 8 * wid w - 7 ≤ 7 * ng w ∧ 7 * (ng w - 1) ≤ 8 * wid w := by
  have m1 := blen_mono _ v w (Nat.le_refl _) h0 h1 h2
  have m2 := blen_mono _ (or1 v) (or1 w) (Nat.le_refl _) (by unfold or1; omega) (by unfold or1; omega) (by unfold or1; omega)
  have b := blen_bounds w (by omega) h2
  rcases Int.lt_or_le 0 w with q | q
  · have e := blen_or1 w q h2
    unfold ng wid
    rw [e] at m2 ⊢
    omega
  · have : w = 0 := by omega
    subst this
    have : v = 0 := by omega
    subst this
    rw [ng_small 0 (by decide) (by decide), wid_zero]
    omega

theorem var_len (v : Int) (t : ByteArray) (w : World) (h : 0 ≤ v ∧ v ≤ 18446744073709551615) (ht : ∃ x : Nat, ng v = (x : Int) + 1 ∧ t = strOfNums (grp v x)) :
    Calls Try.prog 9 #[.int .u64 v] w fun e w' => e = .returned (.string t) ∧ Grown w w' := by
  obtain ⟨x, h1, rfl⟩ := ht
  exact var_any v x w h.1 h.2 h1
theorem width_eq (v p : Int) (w : World) (h : 0 ≤ v ∧ v ≤ 18446744073709551615) (hp : wid v = p) :
    Calls Try.prog 10 #[.int .u64 v] w fun e w' => e = .returned (.int .i64 p) ∧ w' = w := by
  subst hp
  exact width_any v w h.1 h.2

set_option maxHeartbeats 2000000 in
theorem core (v w p q : Int) (s t : ByteArray) (b : World) (H1 : Hid (0 ≤ v ∧ v ≤ 18446744073709551615)) (H2 : Hid (0 ≤ w ∧ w ≤ 18446744073709551615))
    (HS : Hid (∃ x : Nat, ng v = (x : Int) + 1 ∧ s = strOfNums (grp v x))) (HT : Hid (∃ x : Nat, ng w = (x : Int) + 1 ∧ t = strOfNums (grp w x)))
    (HP : Hid (wid v = p)) (HQ : Hid (wid w = q)) (X Y : Nat) (hX : s.size = X) (hY : t.size = Y)
    (f0 : (1 : Int) ≤ (X : Int)) (f1 : (X : Int) ≤ (Y : Int)) (f2 : (Y : Int) ≤ 10) (f3 : p ≤ q) (f4 : q ≤ 8) (f5 : 8 * q - 7 ≤ 7 * (Y : Int)) (f6 : 7 * ((Y : Int) - 1) ≤ 8 * q) (f7 : 0 ≤ p) (hn : ¬ w < v) :
    Calls Try.prog 3 #[.int .u64 v, .int .u64 w] b fun e w' => e = .returned (.bool true) ∧ Grown b w' := by
  go_enter Try.func3, Try.ntmps3
  go_wp2_with fail
  refine (var_len v s _ H1.out HS.out).mono ?_
  rintro e wa ⟨rfl, ha⟩
  go_wp2_with fail
  refine (var_len w t _ H2.out HT.out).mono ?_
  rintro e wb ⟨rfl, hb⟩
  go_wp2_with fail
  refine (width_eq v p _ H1.out HP.out).mono ?_
  rintro e w1 ⟨rfl, rfl⟩
  go_wp2_with fail
  refine (width_eq w q _ H2.out HQ.out).mono ?_
  rintro e w2 ⟨rfl, rfl⟩
  go_wp2_with fail
  refine (width_eq w q _ H2.out HQ.out).mono ?_
  rintro e w3 ⟨rfl, rfl⟩
  go_wp2_with fail
  refine (width_eq w q _ H2.out HQ.out).mono ?_
  rintro e w4 ⟨rfl, rfl⟩
  go_wp2_with fail
  refine (width_eq w q _ H2.out HQ.out).mono ?_
  rintro e w5 ⟨rfl, rfl⟩
  go_wp2_with fail
  go_ret
  exact ⟨rfl, grown_trans ha hb⟩

set_option maxHeartbeats 2000000 in
theorem core2 (v w p q : Int) (s t : ByteArray) (b : World) (H1 : Hid (0 ≤ v ∧ v ≤ 18446744073709551615)) (H2 : Hid (0 ≤ w ∧ w ≤ 18446744073709551615))
    (HS : Hid (∃ x : Nat, ng v = (x : Int) + 1 ∧ s = strOfNums (grp v x))) (HT : Hid (∃ x : Nat, ng w = (x : Int) + 1 ∧ t = strOfNums (grp w x)))
    (HP : Hid (wid v = p)) (HQ : Hid (wid w = q)) (X Y : Nat) (hX : s.size = X) (hY : t.size = Y)
    (f0 : (1 : Int) ≤ (X : Int)) (f1 : (X : Int) ≤ (Y : Int)) (f2 : (Y : Int) ≤ 10) (f3 : p ≤ q) (f4 : q ≤ 8) (f5 : 8 * q - 7 ≤ 7 * (Y : Int)) (f6 : 7 * ((Y : Int) - 1) ≤ 8 * q) (f7 : 0 ≤ p) (hn : v < w) :
    Calls Try.prog 3 #[.int .u64 w, .int .u64 v] b fun e w' => e = .returned (.bool true) ∧ Grown b w' := by
  go_enter Try.func3, Try.ntmps3
  go_wp2_with fail
  refine (var_len v s _ H1.out HS.out).mono ?_
  rintro e wa ⟨rfl, ha⟩
  go_wp2_with fail
  refine (var_len w t _ H2.out HT.out).mono ?_
  rintro e wb ⟨rfl, hb⟩
  go_wp2_with fail
  refine (width_eq v p _ H1.out HP.out).mono ?_
  rintro e w1 ⟨rfl, rfl⟩
  go_wp2_with fail
  refine (width_eq w q _ H2.out HQ.out).mono ?_
  rintro e w2 ⟨rfl, rfl⟩
  go_wp2_with fail
  refine (width_eq w q _ H2.out HQ.out).mono ?_
  rintro e w3 ⟨rfl, rfl⟩
  go_wp2_with fail
  refine (width_eq w q _ H2.out HQ.out).mono ?_
  rintro e w4 ⟨rfl, rfl⟩
  go_wp2_with fail
  refine (width_eq w q _ H2.out HQ.out).mono ?_
  rintro e w5 ⟨rfl, rfl⟩
  go_wp2_with fail
  go_ret
  exact ⟨rfl, grown_trans ha hb⟩

theorem ordered (v w : Int) (b : World) (h0 : 0 ≤ v) (h1 : v ≤ w) (h2 : w ≤ 18446744073709551615) :
    Calls Try.prog 3 #[.int .u64 v, .int .u64 w] b fun e w' => e = .returned (.bool true) ∧ Grown b w' := by
  have F := facts v w h0 h1 h2
  have N := ng_bounds w (by omega) h2
  have M := ng_bounds v h0 (by omega)
  have W := wid_le w (by omega) h2
  have V := wid_le v h0 (by omega)
  obtain ⟨x, hx⟩ : ∃ x : Nat, ng v = (x : Int) + 1 := ⟨(ng v).toNat - 1, by omega⟩
  obtain ⟨y, hy⟩ : ∃ y : Nat, ng w = (y : Int) + 1 := ⟨(ng w).toNat - 1, by omega⟩
  exact core v w (wid v) (wid w) (strOfNums (grp v x)) (strOfNums (grp w y)) b ⟨h0, by omega⟩ ⟨by omega, h2⟩ ⟨x, hx, rfl⟩ ⟨y, hy, rfl⟩ rfl rfl (x + 1) (y + 1)
    (by rw [strOfNums_size, grp_length]) (by rw [strOfNums_size, grp_length]) (by omega) (by omega) (by omega) (by omega) (by omega) (by omega) (by omega) (by omega) (by omega)
theorem turned (v w : Int) (b : World) (h0 : 0 ≤ v) (h1 : v < w) (h2 : w ≤ 18446744073709551615) :
    Calls Try.prog 3 #[.int .u64 w, .int .u64 v] b fun e w' => e = .returned (.bool true) ∧ Grown b w' := by
  have F := facts v w h0 (by omega) h2
  have N := ng_bounds w (by omega) h2
  have M := ng_bounds v h0 (by omega)
  have W := wid_le w (by omega) h2
  have V := wid_le v h0 (by omega)
  obtain ⟨x, hx⟩ : ∃ x : Nat, ng v = (x : Int) + 1 := ⟨(ng v).toNat - 1, by omega⟩
  obtain ⟨y, hy⟩ : ∃ y : Nat, ng w = (y : Int) + 1 := ⟨(ng w).toNat - 1, by omega⟩
  exact core2 v w (wid v) (wid w) (strOfNums (grp v x)) (strOfNums (grp w y)) b ⟨h0, by omega⟩ ⟨by omega, h2⟩ ⟨x, hx, rfl⟩ ⟨y, hy, rfl⟩ rfl rfl (x + 1) (y + 1)
    (by rw [strOfNums_size, grp_length]) (by rw [strOfNums_size, grp_length]) (by omega) (by omega) (by omega) (by omega) (by omega) (by omega) (by omega) (by omega) (by omega)
theorem walk (a0 : Int) (a1 : Int) (w0 : (Lit.int .u64 a0).wf = true) (w1 : (Lit.int .u64 a1).wf = true) (w : World) :
    Calls Try.prog 3 #[.int .u64 a0, .int .u64 a1] w fun e w' => e = .returned (.bool true) ∧ Grown w w' := by
  have b0 := bounds_u64 w0
  have b1 := bounds_u64 w1
  by_cases h : a0 ≤ a1
  · exact ordered a0 a1 w b0.1 h b1.2
  · exact turned a1 a0 w b1.1 (by omega) b0.2

/-! ### THE ROW's STEP: WRITTEN OUT: LEAVE IT -/
set_option maxRecDepth 100000 in
theorem lifted (os : Os) (started : os.Started) (H : Type) (enc : TypeId × Value → H) :
    ReturnsInHanded {} Try.checked os 3 .any (Rows.wordShortSpec.pre6 enc Try.prog Try.f3 Rows.wordShortRow.domain false) (Rows.wordShortSpec.post enc Try.prog Try.f3 false true false false) := by
  refine returnsInHanded_of_change (C := Try.checked) own started (by kernel_rfl) Try.func3
    (ChangeSpec.witness6 (enc := enc) (C := Try.checked) false ⟨#[], #[.int .u64 0, .int .u64 0], []⟩ 8 (by kernel_rfl) (by kernel_rfl) (by kernel_rfl) (by kernel_rfl)) ?_
  intro W base args ds gs before hval0 hW hcnd _
  have hval : ∀ (j : Nat) t v, Try.f3.params[j]? = some t → args[j]? = some v → Value.okWide Try.prog W .any base t v := hval0
  have hW' := hW
  obtain ⟨p, q, hA0, hV, rfl, hfz, hnd⟩ := hW
  have hA : DataW.TrodAll enc Try.prog W 0 (fun _ => true) true Try.f3.params.toList args.toList ds p := hA0
  rw [Try.params3] at hA hval
  obtain ⟨v0, vs0, d0, ds0, p0, q0, hargs, rfl, rfl, h0, r0⟩ := trodAll_cons hA
  obtain ⟨v1, vs1, d1, ds1, p1, q1, rfl, rfl, rfl, h1, r1⟩ := trodAll_cons r0
  obtain ⟨rfl, rfl, rfl⟩ := trodAll_nil r1
  obtain rfl : args = #[v0, v1] := by cases args; simp_all
  obtain ⟨rfl, rfl⟩ := trodVars_none hV
  obtain ⟨a0, rfl, rfl, rfl, w0⟩ := open_int Try.underlying22 (hval 0 22 v0 rfl rfl) h0
  obtain ⟨a1, rfl, rfl, rfl, w1⟩ := open_int Try.underlying22 (hval 1 22 v1 rfl rfl) h1
  clear hA0 hval0
  simp only [List.append_nil] at hW'
  refine (walk a0 a1 w0 w1 W).mono fun e W' ⟨he, hg⟩ => ?_
  subst he
  exact ⟨_, rfl, post_of_same (pa := []) (pv := []) hW' (fun _ _ _ => (trodAll_cons_mk (shut_bool Try.underlying4 _) trodAll_mk0)) (fun sp _ => (trodAll_cons_mk (shut_int Try.underlying22 w0) (trodAll_cons_mk (shut_int Try.underlying22 w1) trodAll_mk0))) (fun _ _ => rfl) rfl
    (hg.frame _) hg.2.1 (ok_one (by kernel_rfl) rfl (okWide_bool_mk Try.underlying4 _))⟩

theorem over : Rows.wordShortRow.holds Try.pinned (OpenSpec.ofChange Rows.wordShortSpec) :=
  OpenClaim.holds_of_wide 3 Try.f3 rfl rfl rfl rfl rfl rfl rfl ⟨rfl, rfl, rfl, rfl, rfl⟩ rfl rfl rfl rfl rfl (by kernel_rfl) Try.func3 (by kernel_rfl)
    (of_decide_eq_true (by kernel_rfl)) (by unfold Func.isWrapper; first | (rw [if_pos (by decide +kernel)]; kernel_rfl) | (rw [if_neg (by decide +kernel)]; exact ⟨rfl, rfl⟩))
    (fun os started H enc _ => lifted os started H enc)

/-- ████ THE STATEMENT ████ -/
theorem proved : Rows.WordShortSaid :=
  over
#print axioms proved
end Go.Proofs.Ytahiahkjglenoab.wordShort
