/-
  Law RecDecodes
-/
import Derived.Test.YtihjapfgllokgaaOpn
import Derived.Test.YtihjapfgllokgaaRDec
namespace Go.Proofs.Ytihjapfgllokgaa.recDecodes
open Go.ChangeShapes Go.WideShapes Go.ChangeAt Go.RowKit
open Go.Deep
set_option linter.unusedVariables false
set_option linter.unusedSimpArgs false

theorem own : ownKnob Try.prog.godebug = none := by kernel_rfl

theorem gotR_len (s : ByteArray) : (gotR s).img.length = 224 := by
  unfold gotR
  cases hq : decR s with
  | none => exact zs_length _
  | some x => exact (decR_some hq).1.len
set_option maxRecDepth 20000 in
set_option maxHeartbeats 4000000 in
theorem walk (w : World) (s : ByteArray) (hs : s.size ≤ maxLen) :
    Calls Try.prog 4 #[.string s] w fun ex w' => ex = .returned (.bool true) ∧ Below w.heap.size w w' := by
  have hz := zero33
  have hs0 := R.arr_size R.zero (zs_length _)
  have hsr := R.arr_size (gotR s) (gotR_len s)
  have HD : Hid _ := fun w => dec_any s w hs
  have HR : Hid _ := fun w => rdec_any s w hs
  have HAW : Hid _ := fun w => awake_any w
  have heq : ∀ w, (Op.equalIn 10000 33 (.agg (gotR s).arr) (.agg (gotR s).arr)).run Try.prog w = .ok true w := fun w => by rw [equal33 _ _ (gotR_len s) (gotR_len s) w, decide_eq_true rfl]
  have HEE : Hid (errR s = if (decR s).isSome then 0 else 2) := rfl
  generalize gotR s = r at HD HR hsr heq
  generalize errR s = ee at HD HEE
  generalize (decR s).isSome = oo at HR HEE
  have rb : Below w.heap.size w w := Below.refl _ _
  go_enter Try.func4, Try.ntmps4
  go_upto_region 2 with (first
    | (go_at_call 13; refine (HD.out _).mono ?_; clear HD; rintro e w4 ⟨rfl, h4⟩
       have p3 : Row (w4.alloc (.cells R.zero.arr 33)) w4.heap.size R.zero.arr 33 := Row.new _ _ _
       have pb := h4.alloc h4.size (.cells R.zero.arr 33))
    | (refine store_cells rfl 33 (.tmp 3) (.tmp 10) rfl w4.heap.size r.arr rfl rfl 33 _ p3 238 size33 hs0 hsr (R.arr_one _) ?_))
  have y3 := p3.set r.arr
  have yb := below_setRow pb h4.size r.arr
  have hg3 := h4.size
  clear h4 p3 pb
  generalize (w4.alloc (.cells R.zero.arr 33)).setRow w4.heap.size r.arr = W4 at y3 yb ⊢
  generalize w4.heap.size = g3 at y3 hg3 ⊢
  go_upto_region 3 with (first
    | (go_at_call 14; refine (HR.out _).mono ?_; clear HR; rintro e w5 ⟨rfl, h5⟩
       have u3 := y3.below h5 y3.lt
       have ub := yb.trans (h5.mono yb.size)
       have p3 := u3.alloc (.cells R.zero.arr 33)
       have p5 : Row (w5.alloc (.cells R.zero.arr 33)) w5.heap.size R.zero.arr 33 := Row.new _ _ _
       have pb := ub.alloc ub.size (.cells R.zero.arr 33)
       have hlt := u3.lt)
    | (refine store_cells rfl 33 (.tmp 5) (.tmp 15) rfl w5.heap.size r.arr rfl rfl 33 _ p5 238 size33 hs0 hsr (R.arr_one _) ?_))
  have z3 := p3.other (g := w5.heap.size) (by omega) r.arr
  have z5 := p5.set r.arr
  have zb := below_setRow pb ub.size r.arr
  clear h5 u3 ub p3 p5 pb y3 yb
  generalize (w5.alloc (.cells R.zero.arr 33)).setRow w5.heap.size r.arr = W5 at z3 z5 zb ⊢
  generalize w5.heap.size = g5 at z5 hlt ⊢
  cases oo with
  | false =>
    obtain rfl : ee = 2 := HEE.out
    go_wp2_with (first
      | (refine load_cells rfl 33 (.tmp 3) rfl g3 rfl 33 r.arr z3 238 Try.underlying33 rfl size33 hsr ?_)
      | (refine load_cells rfl 33 (.tmp 5) rfl g5 rfl 33 r.arr z5 238 Try.underlying33 rfl size33 hsr ?_)
      | (go_at_call 12; refine (HAW.out _).mono ?_; clear HAW; rintro e w6 ⟨rfl, h6⟩))
    go_ret
    exact ⟨rfl, zb.trans (h6.mono zb.size)⟩
  | true =>
    obtain rfl : ee = 0 := HEE.out
    go_wp2_with (first
      | (refine load_cells rfl 33 (.tmp 3) rfl g3 rfl 33 r.arr z3 238 Try.underlying33 rfl size33 hsr ?_)
      | (refine load_cells rfl 33 (.tmp 5) rfl g5 rfl 33 r.arr z5 238 Try.underlying33 rfl size33 hsr ?_)
      | (go_at_call 12; refine (HAW.out _).mono ?_; clear HAW; rintro e w6 ⟨rfl, h6⟩))
    go_ret
    exact ⟨rfl, zb.trans (h6.mono zb.size)⟩

set_option maxRecDepth 100000 in
theorem lifted (os : Os) (started : os.Started) (H : Type) (enc : TypeId × Value → H) :
    ReturnsInHanded {} Try.checked os 4 .any (Rows.recDecodesSpec.pre6 enc Try.prog Try.f4 Rows.recDecodesRow.domain false) (Rows.recDecodesSpec.post enc Try.prog Try.f4 false true false false) := by
  refine returnsInHanded_of_change_sized (C := Try.checked) own started (by kernel_rfl) Try.func4
    (ChangeSpec.witness6 (enc := enc) (C := Try.checked) false ⟨#[], #[.string ByteArray.empty], []⟩ 8 (by kernel_rfl) (by kernel_rfl) (by kernel_rfl) (by kernel_rfl)) ?_
  intro W base args ds gs before hval0 hW hcnd hsz0 _
  have hval : ∀ (j : Nat) t v, Try.f4.params[j]? = some t → args[j]? = some v → Value.okWide Try.prog W .any base t v := hval0
  have hW' := hW
  obtain ⟨p, q, hA0, hV, rfl, hfz, hnd⟩ := hW
  have hA : DataW.TrodAll enc Try.prog W 0 (fun _ => true) true Try.f4.params.toList args.toList ds p := hA0
  have hsz : (DataW.weightsEach Try.prog (Try.f4.params.toList ++ []) (ds ++ gs)).all (· ≤ reachBytes) = true := hsz0
  rw [Try.params4] at hA hval hsz
  obtain ⟨v0, vs0, d0, ds0, p0, q0, hargs, rfl, rfl, h0, r0⟩ := trodAll_cons hA
  obtain ⟨rfl, rfl, rfl⟩ := trodAll_nil r0
  obtain rfl : args = #[v0] := by cases args; simp_all
  obtain ⟨rfl, rfl⟩ := trodVars_none hV
  simp only [List.append_nil] at hsz
  have hlt : ∀ x ∈ (p0 ++ []), x.block < W.heap.size := fun x hx => hW'.lt x (by simpa using hx)
  have hw0 : (d0.weights Try.prog 9).all (· ≤ reachBytes) = true := List.all_eq_true.2 fun m hm => List.all_eq_true.1 hsz m (by simp [DataW.weightsEach, hm])
  have k0 := h0
  obtain ⟨a0, rfl, rfl, rfl, w0⟩ := Go.ChangeMaps.open_string Try.underlying9 (hval 0 9 v0 rfl rfl) h0
  clear hA0 hval0
  simp only [List.append_nil] at hW'
  refine (walk W a0 w0).mono fun e W' ⟨he, hg⟩ => ?_
  subst he
  exact ⟨_, rfl, ⟨_, _, _, [], ([] ++ []), [], hW', (trodAll_cons_mk (shut_bool Try.underlying4 _) trodAll_mk0), (trodAll_cons_mk (Below.trod laidOut (by kernel_rfl) (of_decide_eq_true (by kernel_rfl)) k0 hg (fun x hx => (nomatch hx))) trodAll_mk0), rfl,
    hg.frame _, fun h => by cases h⟩⟩

theorem over : Rows.recDecodesRow.holds Try.pinned (OpenSpec.ofChange Rows.recDecodesSpec) :=
  OpenClaim.holds_of_wide 4 Try.f4 rfl rfl rfl rfl rfl rfl rfl ⟨rfl, rfl, rfl, rfl, rfl⟩ rfl rfl rfl rfl rfl (by kernel_rfl) Try.func4 (by kernel_rfl)
    (of_decide_eq_true (by kernel_rfl)) (by unfold Func.isWrapper; first | (rw [if_pos (by decide +kernel)]; kernel_rfl) | (rw [if_neg (by decide +kernel)]; exact ⟨rfl, rfl⟩))
    (fun os started H enc _ => lifted os started H enc)

/-- The statement. -/
theorem proved : Rows.RecDecodesSaid :=
  over
#print axioms proved
end Go.Proofs.Ytihjapfgllokgaa.recDecodes
