/-
  Proved here: any record has the document's bytes, or may not be (RecEncodes), for all records.
-/
import Derived.Test.YtihjapfgllokgaaOpn
import Derived.Test.YtihjapfgllokgaaREnc
namespace Go.Proofs.Ytihjapfgllokgaa.recEncodes
open Go.ChangeShapes Go.WideShapes Go.ChangeAt Go.RowKit
open Go.Deep
set_option linter.unusedVariables false
set_option linter.unusedSimpArgs false

theorem own : ownKnob Try.prog.godebug = none := by kernel_rfl

set_option maxRecDepth 20000 in
set_option maxHeartbeats 4000000 in
theorem walk (w : World) (r : R) (hf : r.Fits) :
    Calls Try.prog 3 #[.agg r.arr] w fun ex w' => ex = .returned (.bool true) ∧ Below w.heap.size w w' := by
  have hs1 := R.arr_size r hf.len
  have HE : Hid _ := fun w => enc_any r w hf
  have HR : Hid _ := fun w => renc_any r w hf
  have HM : Hid _ := fun w => may_any r w hf
  have HAW : Hid _ := fun w => awake_any w
  have r1 : Row (w.alloc (.cells r.arr 33)) w.heap.size r.arr 33 := Row.new _ _ _
  have ab : Below w.heap.size w (w.alloc (.cells r.arr 33)) := (Below.refl _ _).alloc (Nat.le_refl _) _
  have HEE : Hid (encE r = if mayR r then 0 else 1) := rfl
  generalize encS r = sa at HE HR
  generalize encE r = ee at HE HEE
  generalize mayR r = mm at HR HM HEE
  go_enter Try.func3, Try.ntmps3
  go_upto_region 1 with fail
  generalize w.alloc (.cells r.arr 33) = w1 at r1 ab ⊢
  go_upto_region 2 with (first
    | (refine load_cells rfl 33 (.tmp 1) rfl w.heap.size rfl 33 r.arr r1 238 Try.underlying33 rfl size33 hs1 ?_)
    | (go_at_call 9; refine (HE.out _).mono ?_; clear HE; rintro e w3 ⟨rfl, h3⟩; have x1 := r1.below h3 r1.lt; have xb := ab.trans (h3.mono ab.size)))
  clear r1 ab h3
  go_upto_region 3 with (first
    | (refine load_cells rfl 33 (.tmp 1) rfl w.heap.size rfl 33 r.arr x1 238 Try.underlying33 rfl size33 hs1 ?_)
    | (go_at_call 10; refine (HR.out _).mono ?_; clear HR; rintro e w4 ⟨rfl, h4⟩; have y1 := x1.below h4 x1.lt; have yb := xb.trans (h4.mono xb.size)))
  clear x1 xb h4
  cases mm with
  | false =>
    obtain rfl : ee = 1 := HEE.out
    go_wp2_with (first
      | (refine load_cells_g rfl 33 (.tmp 1) rfl w.heap.size rfl 33 r.arr y1 238 Try.underlying33 rfl size33 hs1 ?_)
      | (go_at_call 11; refine (HM.out _).mono ?_; clear HM; rintro e w5 ⟨rfl, h5⟩; have zb := yb.trans (h5.mono yb.size))
      | (go_at_call 12; refine (HAW.out _).mono ?_; clear HAW; rintro e w6 ⟨rfl, h6⟩))
    go_ret
    exact ⟨rfl, zb.trans (h6.mono zb.size)⟩
  | true =>
    obtain rfl : ee = 0 := HEE.out
    go_wp2_with (first
      | (refine load_cells_g rfl 33 (.tmp 1) rfl w.heap.size rfl 33 r.arr y1 238 Try.underlying33 rfl size33 hs1 ?_)
      | (go_at_call 11; refine (HM.out _).mono ?_; clear HM; rintro e w5 ⟨rfl, h5⟩; have zb := yb.trans (h5.mono yb.size))
      | (go_at_call 12; refine (HAW.out _).mono ?_; clear HAW; rintro e w6 ⟨rfl, h6⟩))
    go_ret
    exact ⟨rfl, zb.trans (h6.mono zb.size)⟩

set_option maxRecDepth 100000 in
theorem lifted (os : Os) (started : os.Started) (H : Type) (enc : TypeId × Value → H) :
    ReturnsInHanded {} Try.checked os 3 .any (Rows.recEncodesSpec.pre6 enc Try.prog Try.f3 Rows.recEncodesRow.domain false) (Rows.recEncodesSpec.post enc Try.prog Try.f3 false true false false) := by
  refine returnsInHanded_of_change_sized (C := Try.checked) own started (by kernel_rfl) Try.func3
    (ChangeSpec.witness6 (enc := enc) (C := Try.checked) false ⟨#[], #[.agg R.zero.arr], []⟩ 8 (by kernel_rfl) (by kernel_rfl) (by kernel_rfl) (by kernel_rfl)) ?_
  intro W base args ds gs before hval0 hW hcnd hsz0 _
  have hval : ∀ (j : Nat) t v, Try.f3.params[j]? = some t → args[j]? = some v → Value.okWide Try.prog W .any base t v := hval0
  have hW' := hW
  obtain ⟨p, q, hA0, hV, rfl, hfz, hnd⟩ := hW
  have hA : DataW.TrodAll enc Try.prog W 0 (fun _ => true) true Try.f3.params.toList args.toList ds p := hA0
  have hsz : (DataW.weightsEach Try.prog (Try.f3.params.toList ++ []) (ds ++ gs)).all (· ≤ reachBytes) = true := hsz0
  rw [Try.params3] at hA hval hsz
  obtain ⟨v0, vs0, d0, ds0, p0, q0, hargs, rfl, rfl, h0, r0⟩ := trodAll_cons hA
  obtain ⟨rfl, rfl, rfl⟩ := trodAll_nil r0
  obtain rfl : args = #[v0] := by cases args; simp_all
  obtain ⟨rfl, rfl⟩ := trodVars_none hV
  simp only [List.append_nil] at hsz
  have hlt : ∀ x ∈ (p0 ++ []), x.block < W.heap.size := fun x hx => hW'.lt x (by simpa using hx)
  have hw0 : (d0.weights Try.prog 33).all (· ≤ reachBytes) = true := List.all_eq_true.2 fun m hm => List.all_eq_true.1 hsz m (by simp [DataW.weightsEach, hm])
  have k0 := h0
  obtain ⟨a0, rfl, w0⟩ := open_recv (hval 0 33 v0 rfl rfl) h0
  clear hA0 hval0
  simp only [List.append_nil] at hW'
  refine (walk W a0 w0).mono fun e W' ⟨he, hg⟩ => ?_
  subst he
  exact ⟨_, rfl, ⟨_, _, _, [], (p0 ++ []), [], hW', (trodAll_cons_mk (shut_bool Try.underlying4 _) trodAll_mk0), (trodAll_cons_mk (Below.trod laidOut (by kernel_rfl) (of_decide_eq_true (by kernel_rfl)) k0 hg (fun x hx => hlt x (by simp [hx]))) trodAll_mk0), rfl,
    hg.frame _, fun h => by cases h⟩⟩

theorem over : Rows.recEncodesRow.holds Try.pinned (OpenSpec.ofChange Rows.recEncodesSpec) :=
  OpenClaim.holds_of_wide 3 Try.f3 rfl rfl rfl rfl rfl rfl rfl ⟨rfl, rfl, rfl, rfl, rfl⟩ rfl rfl rfl rfl rfl (by kernel_rfl) Try.func3 (by kernel_rfl)
    (of_decide_eq_true (by kernel_rfl)) (by unfold Func.isWrapper; first | (rw [if_pos (by decide +kernel)]; kernel_rfl) | (rw [if_neg (by decide +kernel)]; exact ⟨rfl, rfl⟩))
    (fun os started H enc _ => lifted os started H enc)

/-- The statement. -/
theorem proved : Rows.RecEncodesSaid :=
  over
#print axioms proved
end Go.Proofs.Ytihjapfgllokgaa.recEncodes
