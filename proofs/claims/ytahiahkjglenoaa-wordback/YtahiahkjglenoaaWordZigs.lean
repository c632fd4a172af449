/-
  Proved: for every int64 i and every uint64 u the Go function varvelaw01.WordZigs returns true and leaves its arguments as they were; no condition.
-/
import Derived.Test.YtahiahkjglenoaaRows
import Derived.WalkKit
import Derived.ProofKit
import Derived.OpenShut
import Derived.ShutString
import Derived.Laws.BitsAllLaws
namespace Go.Proofs.Ytahiahkjglenoaa.wordZigs
open Go.ChangeShapes Go.WideShapes Go.ChangeAt Go.RowKit
open Go.ChangeMaps (open_string shut_string)
set_option linter.unusedVariables false

theorem own : ownKnob Try.prog.godebug = none := by kernel_rfl

/-- What 'Zig' tells. -/
def zig (a : Int) : Int := if a < 0 then -2 * a - 1 else 2 * a
/-- What 'Zag' tells. -/
def zag (u : Int) : Int := if u % 2 = 1 then -(u / 2) - 1 else u / 2

theorem zag_zig (a : Int) : zag (zig a) = a := by unfold zag zig; split <;> split <;> omega
theorem zig_zag (u : Int) (h : 0 ≤ u) : zig (zag u) = u := by unfold zag zig; split <;> split <;> omega

theorem xor_ones (b : Nat) (hb : b < 2 ^ 64) : b ^^^ (2 ^ 64 - 1) = 2 ^ 64 - 1 - b := by
  apply Nat.eq_of_testBit_eq
  intro i
  rw [Nat.testBit_xor, Nat.testBit_two_pow_sub_one, show 2 ^ 64 - 1 - b = 2 ^ 64 - (b + 1) by omega, Nat.testBit_two_pow_sub_succ hb]
  by_cases hi : i < 64
  · simp [hi]
  · have : b.testBit i = false := Nat.testBit_lt_two_pow (Nat.lt_of_lt_of_le hb (Nat.pow_le_pow_right (by decide) (by omega)))
    simp [hi, this]

theorem zig_code (a : Int) (h : -9223372036854775808 ≤ a ∧ a ≤ 9223372036854775807) :
    bits BinOp.xor IntKind.u64 (IntKind.u64.wrap (wrap64 (a * 2))) (IntKind.u64.wrap (a / 9223372036854775808)) = zig a := by
  by_cases hn : a < 0
  · have e1 : IntKind.u64.wrap (wrap64 (a * 2)) = ((2 * a + 18446744073709551616).toNat : Int) := by
      rw [IntKind.wrap_u64]; unfold wrap64; omega
    have e2 : IntKind.u64.wrap (a / 9223372036854775808) = ((2 ^ 64 - 1 : Nat) : Int) := by rw [IntKind.wrap_u64]; omega
    rw [e1, e2, bits_xor_u64_nat _ _ (by omega) (by decide), xor_ones _ (by omega)]
    unfold zig; rw [if_pos hn]; omega
  · have e1 : IntKind.u64.wrap (wrap64 (a * 2)) = ((2 * a).toNat : Int) := by
      rw [IntKind.wrap_u64]; unfold wrap64; omega
    have e2 : IntKind.u64.wrap (a / 9223372036854775808) = ((0 : Nat) : Int) := by rw [IntKind.wrap_u64]; omega
    rw [e1, e2, bits_xor_u64_nat _ _ (by omega) (by decide), Nat.xor_zero]
    unfold zig; rw [if_neg hn]; omega

theorem i64_xor_ones (x : Nat) (hx : x < 9223372036854775808) : bits .xor .i64 (x : Int) (-1) = -(x : Int) - 1 := by
  show IntKind.i64.wrap ((BitVec.ofInt 64 (x : Int) ^^^ BitVec.ofInt 64 (-1)).toNat : Int) = _
  have h1 : (BitVec.ofInt 64 (-1)).toNat = 2 ^ 64 - 1 := by decide
  have h2 : (BitVec.ofInt 64 (x : Int)).toNat = x := by
    rw [BitVec.ofInt_natCast, BitVec.toNat_ofNat]; exact Nat.mod_eq_of_lt (by omega)
  rw [BitVec.toNat_xor, h1, h2, xor_ones x (by omega), IntKind.wrap_i64]
  omega
theorem i64_xor_zero (x : Nat) (hx : x < 9223372036854775808) : bits .xor .i64 (x : Int) 0 = (x : Int) := by
  show IntKind.i64.wrap ((BitVec.ofInt 64 (x : Int) ^^^ BitVec.ofInt 64 0).toNat : Int) = _
  have h1 : (BitVec.ofInt 64 0).toNat = 0 := by decide
  have h2 : (BitVec.ofInt 64 (x : Int)).toNat = x := by
    rw [BitVec.ofInt_natCast, BitVec.toNat_ofNat]; exact Nat.mod_eq_of_lt (by omega)
  rw [BitVec.toNat_xor, h1, h2, Nat.xor_zero, IntKind.wrap_i64]
  omega

theorem zag_code (u : Int) (h : 0 ≤ u ∧ u ≤ 18446744073709551615) :
    bits BinOp.xor IntKind.i64 (wrap64 (u / 2)) (wrap64 (-wrap64 (bits BinOp.and IntKind.u64 u 1))) = zag u := by
  have e0 : bits BinOp.and IntKind.u64 u 1 = u % 2 := by
    rw [u64_and u 1 (by omega) (by omega) (by decide) (by decide)]
    show ((u.toNat &&& 1 : Nat) : Int) = _
    rw [nat_mask1]; omega
  have e1 : wrap64 (u / 2) = ((u / 2).toNat : Int) := by unfold wrap64; omega
  rw [e0, e1]
  by_cases h1 : u % 2 = 1
  · have e2 : wrap64 (-wrap64 (u % 2)) = -1 := by unfold wrap64; omega
    rw [e2, i64_xor_ones _ (by omega)]
    unfold zag; rw [if_pos h1]; omega
  · have e2 : wrap64 (-wrap64 (u % 2)) = 0 := by unfold wrap64; omega
    rw [e2, i64_xor_zero _ (by omega)]
    unfold zag; rw [if_neg h1]; omega

theorem rzig_neg (a : Int) (h : -9223372036854775808 ≤ a ∧ a ≤ 9223372036854775807) (hn : a < 0) :
    IntKind.u64.wrap (IntKind.u64.wrap (2 * IntKind.u64.wrap (wrap64 (-wrap64 (a + 1)))) + 1) = zig a := by
  simp only [IntKind.wrap_u64]; unfold wrap64 zig; rw [if_pos hn]; omega
theorem rzig_pos (a : Int) (h : -9223372036854775808 ≤ a ∧ a ≤ 9223372036854775807) (hn : 0 ≤ a) :
    IntKind.u64.wrap (2 * IntKind.u64.wrap a) = zig a := by
  simp only [IntKind.wrap_u64]; unfold zig; rw [if_neg (by omega)]; omega

theorem ret_int {k : IntKind} {a b : Int} (h : a = b) : Ending.returned (.int k a) = .returned (.int k b) := by rw [h]

theorem zig_any (a : Int) (w : World) (h : -9223372036854775808 ≤ a ∧ a ≤ 9223372036854775807) :
    Calls Try.prog 20 #[.int .i64 a] w fun e w' => e = .returned (.int .u64 (zig a)) ∧ w' = w := by
  have H : Hid (-9223372036854775808 ≤ a ∧ a ≤ 9223372036854775807) := h
  clear h
  go_enter Try.func20, Try.ntmps20
  go_wp2
  go_ret
  exact ⟨ret_int (zig_code a H.out), rfl⟩
theorem rzig_any (a : Int) (w : World) (h : -9223372036854775808 ≤ a ∧ a ≤ 9223372036854775807) :
    Calls Try.prog 21 #[.int .i64 a] w fun e w' => e = .returned (.int .u64 (zig a)) ∧ w' = w := by
  have H : Hid (-9223372036854775808 ≤ a ∧ a ≤ 9223372036854775807) := h
  clear h
  by_cases hn : a < 0
  · go_enter Try.func21, Try.ntmps21
    go_wp2
    go_ret
    exact ⟨ret_int (rzig_neg a H.out hn), rfl⟩
  · have hp : 0 ≤ a := by omega
    go_enter Try.func21, Try.ntmps21
    go_wp2
    go_ret
    exact ⟨ret_int (rzig_pos a H.out hp), rfl⟩
theorem zag_any (u : Int) (w : World) (h : 0 ≤ u ∧ u ≤ 18446744073709551615) :
    Calls Try.prog 22 #[.int .u64 u] w fun e w' => e = .returned (.int .i64 (zag u)) ∧ w' = w := by
  have H : Hid (0 ≤ u ∧ u ≤ 18446744073709551615) := h
  clear h
  go_enter Try.func22, Try.ntmps22
  go_wp2
  go_ret
  exact ⟨ret_int (zag_code u H.out), rfl⟩

theorem zig_fits (a : Int) (h : -9223372036854775808 ≤ a ∧ a ≤ 9223372036854775807) : 0 ≤ zig a ∧ zig a ≤ 18446744073709551615 := by
  unfold zig; split <;> omega
theorem zag_fits (u : Int) (h : 0 ≤ u ∧ u ≤ 18446744073709551615) : -9223372036854775808 ≤ zag u ∧ zag u ≤ 9223372036854775807 := by
  unfold zag; split <;> omega
theorem wrap_fits (a : Int) : -9223372036854775808 ≤ wrap64 (-a) ∧ wrap64 (-a) ≤ 9223372036854775807 := by unfold wrap64; omega

theorem walk (a0 : Int) (a1 : Int) (w0 : (Lit.int .i64 a0).wf = true) (w1 : (Lit.int .u64 a1).wf = true) (w : World) :
    Calls Try.prog 8 #[.int .i64 a0, .int .u64 a1] w fun e w' => e = .returned (.bool true) ∧ Grown w w' := by
  have b0 := bounds_i64 w0
  have b1 := bounds_u64 w1
  have z0 := zag_zig a0
  have z1 := zig_zag a1 b1.1
  have H0 : Hid (-9223372036854775808 ≤ a0 ∧ a0 ≤ 9223372036854775807) := b0
  have H1 : Hid (0 ≤ a1 ∧ a1 ≤ 18446744073709551615) := b1
  clear b0 b1 w0 w1
  by_cases hm : a0 = -9223372036854775808
  · have e0 : (a0 == -9223372036854775808) = true := by simp [hm]
    clear hm
    go_enter Try.func8, Try.ntmps8
    go_wp2_with (first
      | (go_at_call 20; refine (zig_any _ _ ?_).mono ?_; (first | exact H0.out | exact zag_fits _ H1.out | exact wrap_fits _); rintro e w' ⟨rfl, rfl⟩)
      | (go_at_call 21; refine (rzig_any _ _ H0.out).mono ?_; rintro e w' ⟨rfl, rfl⟩)
      | (go_at_call 22; refine (zag_any _ _ ?_).mono ?_; (first | exact H1.out | exact zig_fits _ H0.out); rintro e w' ⟨rfl, rfl⟩))
    go_ret
    exact ⟨rfl, Grown.refl _⟩
  · have e0 : (a0 == -9223372036854775808) = false := by simp [hm]
    have en : wrap64 (-a0) = -a0 := by have := H0.out; unfold wrap64; omega
    have le : zig a0 / 2 ≤ zig (-a0) / 2 + 1 := by unfold zig; split <;> split <;> omega
    have hy := zig_fits a0 H0.out
    have hz : 0 ≤ zig (-a0) ∧ zig (-a0) ≤ 18446744073709551615 := by have := H0.out; unfold zig; split <;> omega
    have HN : Hid (-9223372036854775808 ≤ -a0 ∧ -a0 ≤ 9223372036854775807) := by have := H0.out; show _ ∧ _; exact ⟨by omega, by omega⟩
    clear hm
    go_enter Try.func8, Try.ntmps8
    go_wp2_with (first
      | (go_at_call 20; refine (zig_any _ _ ?_).mono ?_; (first | exact H0.out | exact zag_fits _ H1.out | exact HN.out); rintro e w' ⟨rfl, rfl⟩)
      | (go_at_call 21; refine (rzig_any _ _ H0.out).mono ?_; rintro e w' ⟨rfl, rfl⟩)
      | (go_at_call 22; refine (zag_any _ _ ?_).mono ?_; (first | exact H1.out | exact zig_fits _ H0.out); rintro e w' ⟨rfl, rfl⟩))
    go_ret
    exact ⟨rfl, Grown.refl _⟩

/-! ### THE ROW's STEP: WRITTEN OUT: LEAVE IT -/
set_option maxRecDepth 100000 in
theorem lifted (os : Os) (started : os.Started) (H : Type) (enc : TypeId × Value → H) :
    ReturnsInHanded {} Try.checked os 8 .any (Rows.wordZigsSpec.pre6 enc Try.prog Try.f8 Rows.wordZigsRow.domain false) (Rows.wordZigsSpec.post enc Try.prog Try.f8 false true false false) := by
  refine returnsInHanded_of_change (C := Try.checked) own started (by kernel_rfl) Try.func8
    (ChangeSpec.witness6 (enc := enc) (C := Try.checked) false ⟨#[], #[.int .i64 0, .int .u64 0], []⟩ 8 (by kernel_rfl) (by kernel_rfl) (by kernel_rfl) (by kernel_rfl)) ?_
  intro W base args ds gs before hval0 hW hcnd _
  have hval : ∀ (j : Nat) t v, Try.f8.params[j]? = some t → args[j]? = some v → Value.okWide Try.prog W .any base t v := hval0
  have hW' := hW
  obtain ⟨p, q, hA0, hV, rfl, hfz, hnd⟩ := hW
  have hA : DataW.TrodAll enc Try.prog W 0 (fun _ => true) true Try.f8.params.toList args.toList ds p := hA0
  rw [Try.params8] at hA hval
  obtain ⟨v0, vs0, d0, ds0, p0, q0, hargs, rfl, rfl, h0, r0⟩ := trodAll_cons hA
  obtain ⟨v1, vs1, d1, ds1, p1, q1, rfl, rfl, rfl, h1, r1⟩ := trodAll_cons r0
  obtain ⟨rfl, rfl, rfl⟩ := trodAll_nil r1
  obtain rfl : args = #[v0, v1] := by cases args; simp_all
  obtain ⟨rfl, rfl⟩ := trodVars_none hV
  obtain ⟨a0, rfl, rfl, rfl, w0⟩ := open_int Try.underlying2 (hval 0 2 v0 rfl rfl) h0
  obtain ⟨a1, rfl, rfl, rfl, w1⟩ := open_int Try.underlying22 (hval 1 22 v1 rfl rfl) h1
  clear hA0 hval0
  simp only [List.append_nil] at hW'
  refine (walk a0 a1 w0 w1 W).mono fun e W' ⟨he, hg⟩ => ?_
  subst he
  exact ⟨_, rfl, post_of_same (pa := []) (pv := []) hW' (fun _ _ _ => (trodAll_cons_mk (shut_bool Try.underlying4 _) trodAll_mk0)) (fun sp _ => (trodAll_cons_mk (shut_int Try.underlying2 w0) (trodAll_cons_mk (shut_int Try.underlying22 w1) trodAll_mk0))) (fun _ _ => rfl) rfl
    (hg.frame _) hg.2.1 (ok_one (by kernel_rfl) rfl (okWide_bool_mk Try.underlying4 _))⟩

theorem over : Rows.wordZigsRow.holds Try.pinned (OpenSpec.ofChange Rows.wordZigsSpec) :=
  OpenClaim.holds_of_wide 8 Try.f8 rfl rfl rfl rfl rfl rfl rfl ⟨rfl, rfl, rfl, rfl, rfl⟩ rfl rfl rfl rfl rfl (by kernel_rfl) Try.func8 (by kernel_rfl)
    (of_decide_eq_true (by kernel_rfl)) (by unfold Func.isWrapper; first | (rw [if_pos (by decide +kernel)]; kernel_rfl) | (rw [if_neg (by decide +kernel)]; exact ⟨rfl, rfl⟩))
    (fun os started H enc _ => lifted os started H enc)

/-- ████ THE STATEMENT ████ -/
theorem proved : Rows.WordZigsSaid :=
  over
#print axioms proved
end Go.Proofs.Ytahiahkjglenoaa.wordZigs
