/-
  ClockNone (P12.1): for every call, a clock that isn't there gives up nothing and holds nothing, and the fixed run (of two frames the first one is given up, then the other one) comes out.
-/
import Derived.Test.YtobdeijbmnenmabAwk
namespace Go.Proofs.Ytobdeijbmnenmab.clockNone
open Go.ChangeShapes Go.WideShapes Go.ChangeAt Go.RowKit
open Go.Deep
set_option linter.unusedVariables false
set_option linter.unusedSimpArgs false

theorem own : ownKnob Try.prog.godebug = none := by kernel_rfl

theorem walk (w : World) (c : Call) : Calls Try.prog 7 #[.agg c.cells.toArray] w fun e w' => e = .returned (.bool true) ∧ Below w.heap.size w w' := by
  obtain ⟨k, i, b⟩ := c
  show Calls Try.prog 7 #[.agg #[.int .i64 k, .int .i64 i, .bool b]] w _
  have r0 : Row (w.alloc (.cells #[.int .i64 k, .int .i64 i, .bool b] 29)) w.heap.size #[.int .i64 k, .int .i64 i, .bool b] 29 := Row.new _ _ _
  have b0 : Below w.heap.size w (w.alloc (.cells #[.int .i64 k, .int .i64 i, .bool b] 29)) := (Below.refl _ _).alloc (Nat.le_refl _) _
  have hdo := do_nil k i b
  have hpi := fun wa => pins_out (.pointer none) i wa (has_nil i wa)
  have ts : Hid (1 = 1) := rfl
  go_enter Try.func7, Try.ntmps7
  go_wp2_with (first
    | (have hh := ts; clear hh ts; refine wpList_load_mid rfl 29 (.tmp 1) rfl w.heap.size 0 rfl [.int .i64 k, .int .i64 i, .bool b] _ (range_op r0) Try.underlying29 rfl size29 ?_)
    | (go_at_call 11; refine (hdo _).mono ?_; clear hdo; rintro e w2 ⟨he, b2⟩; obtain rfl := he
       have c1 := row_at (r0.below b2 r0.lt) 1 (.int .i64 i) rfl
       have B2 := b0.trans (b2.mono b0.size))
    | (go_at_call 14; refine (hpi _).mono ?_; clear hpi; rintro e wb ⟨he, hww⟩; rw [hww]; clear hww wb; obtain rfl := he)
    | (go_at_call 9; refine (awake_any _).mono ?_; rintro e w3 ⟨he, b3⟩; obtain rfl := he))
  go_ret
  exact ⟨rfl, B2.trans (b3.mono B2.size)⟩

set_option maxRecDepth 100000 in
theorem lifted (os : Os) (started : os.Started) (H : Type) (enc : TypeId × Value → H) :
    ReturnsInHanded {} Try.checked os 7 .any (Rows.clockNoneSpec.pre6 enc Try.prog Try.f7 Rows.clockNoneRow.domain false) (Rows.clockNoneSpec.post enc Try.prog Try.f7 false true false false) := by
  refine returnsInHanded_of_change_sized (C := Try.checked) own started (by kernel_rfl) Try.func7
    (ChangeSpec.witness6 (enc := enc) (C := Try.checked) false ⟨#[], #[.agg #[.int .i64 0, .int .i64 0, .bool false]], []⟩ 8 (by kernel_rfl) (by kernel_rfl) (by kernel_rfl) (by kernel_rfl)) ?_
  intro W base args ds gs before hval0 hW hcnd hsz0 _
  have hval : ∀ (j : Nat) t v, Try.f7.params[j]? = some t → args[j]? = some v → Value.okWide Try.prog W .any base t v := hval0
  have hW' := hW
  obtain ⟨p, q, hA0, hV, rfl, hfz, hnd⟩ := hW
  have hA : DataW.TrodAll enc Try.prog W 0 (fun _ => true) true Try.f7.params.toList args.toList ds p := hA0
  have hsz : (DataW.weightsEach Try.prog (Try.f7.params.toList ++ []) (ds ++ gs)).all (· ≤ reachBytes) = true := hsz0
  rw [Try.params7] at hA hval hsz
  obtain ⟨v0, vs0, d0, ds0, p0, q0, hargs, rfl, rfl, h0, r0⟩ := trodAll_cons hA
  obtain ⟨rfl, rfl, rfl⟩ := trodAll_nil r0
  obtain rfl : args = #[v0] := by cases args; simp_all
  obtain ⟨rfl, rfl⟩ := trodVars_none hV
  simp only [List.append_nil] at hsz
  have hlt : ∀ x ∈ (p0 ++ []), x.block < W.heap.size := fun x hx => hW'.lt x (by simpa using hx)
  have hw0 : (d0.weights Try.prog 29).all (· ≤ reachBytes) = true := List.all_eq_true.2 fun m hm => List.all_eq_true.1 hsz m (by simp [DataW.weightsEach, hm])
  have k0 := h0
  obtain ⟨a0, rfl, w0⟩ := open_callv (hval 0 29 v0 rfl rfl) h0 hw0
  clear hA0 hval0
  simp only [List.append_nil] at hW'
  refine (walk W a0 ).mono fun e W' ⟨he, hg⟩ => ?_
  subst he
  exact ⟨_, rfl, ⟨_, _, _, [], (p0 ++ []), [], hW', (trodAll_cons_mk (shut_bool Try.underlying4 _) trodAll_mk0), (trodAll_cons_mk (Below.trod laidOut (by kernel_rfl) (of_decide_eq_true (by kernel_rfl)) k0 hg (fun x hx => hlt x (by simp [hx]))) trodAll_mk0), rfl,
    hg.frame _, fun h => by cases h⟩⟩

theorem over : Rows.clockNoneRow.holds Try.pinned (OpenSpec.ofChange Rows.clockNoneSpec) :=
  OpenClaim.holds_of_wide 7 Try.f7 rfl rfl rfl rfl rfl rfl rfl ⟨rfl, rfl, rfl, rfl, rfl⟩ rfl rfl rfl rfl rfl (by kernel_rfl) Try.func7 (by kernel_rfl)
    (of_decide_eq_true (by kernel_rfl)) (by unfold Func.isWrapper; first | (rw [if_pos (by decide +kernel)]; kernel_rfl) | (rw [if_neg (by decide +kernel)]; exact ⟨rfl, rfl⟩))
    (fun os started H enc _ => lifted os started H enc)

/-- The statement. -/
theorem proved : Rows.ClockNoneSaid :=
  over
#print axioms proved
end Go.Proofs.Ytobdeijbmnenmab.clockNone
