/-
  Proved here: unlike records have unlike bytes (RecUnlike), for all records.
-/
import Derived.Test.YtihjapfgllokgaaOpn
import Derived.Test.YtihjapfgllokgaaInj
namespace Go.Proofs.Ytihjapfgllokgaa.recUnlike
open Go.ChangeShapes Go.WideShapes Go.ChangeAt Go.RowKit
open Go.Deep
set_option linter.unusedVariables false
set_option linter.unusedSimpArgs false

theorem own : ownKnob Try.prog.godebug = none := by kernel_rfl

theorem encS_eq {a b : R} (ha : a.Fits) (hb : b.Fits) (ma : mayR a = true) (mb : mayR b = true) : decide (encS a = encS b) = decide (a = b) := by
  by_cases h : a = b
  · subst h; simp
  · rw [decide_eq_false h]
    apply decide_eq_false
    intro q
    unfold encS at q
    rw [ma, mb, if_pos rfl, if_pos rfl] at q
    exact h (encT_inj ha hb ma mb (tx_inj (encT_bytes a ha) (encT_bytes b hb) q))
set_option maxRecDepth 20000 in
set_option maxHeartbeats 4000000 in
theorem walk (w : World) (a b : R) (ha : a.Fits) (hb : b.Fits) :
    Calls Try.prog 7 #[.agg a.arr, .agg b.arr] w fun ex w' => ex = .returned (.bool true) ∧ Below w.heap.size w w' := by
  have hsa := R.arr_size a ha.len
  have hsb := R.arr_size b hb.len
  have HEA : Hid _ := fun w => enc_any a w ha
  have HEB : Hid _ := fun w => enc_any b w hb
  have HAW : Hid _ := fun w => awake_any w
  have heq := fun w => equal33 a b ha.len hb.len w
  have r1 : Row ((w.alloc (.cells a.arr 33)).alloc (.cells b.arr 33)) w.heap.size a.arr 33 := (Row.new _ _ _).alloc _
  have r2 : Row ((w.alloc (.cells a.arr 33)).alloc (.cells b.arr 33)) (w.heap.size + 1) b.arr 33 := by have := Row.new (w.alloc (.cells a.arr 33)) b.arr 33; simpa using this
  have ab : Below w.heap.size w ((w.alloc (.cells a.arr 33)).alloc (.cells b.arr 33)) := ((Below.refl _ _).alloc (Nat.le_refl _) _).alloc (by simp) _
  go_enter Try.func7, Try.ntmps7
  go_upto_region 1 with fail
  generalize (w.alloc (.cells a.arr 33)).alloc (.cells b.arr 33) = w1 at r1 r2 ab ⊢
  have tk : Hid (1 = 1) := rfl
  go_upto_region 2 with (first
    | (refine load_cells rfl 33 (.tmp 2) rfl w.heap.size rfl 33 a.arr r1 238 Try.underlying33 rfl size33 hsa ?_)
    | (go_at_call 9; refine (HEA.out _).mono ?_; clear HEA; rintro e w3 ⟨rfl, h3⟩; have x1 := r1.below h3 r1.lt; have x2 := r2.below h3 r2.lt; have xb := ab.trans (h3.mono ab.size)))
  clear r1 r2 ab h3
  go_upto_region 3 with (first
    | (refine load_cells rfl 33 (.tmp 3) rfl (w.heap.size + 1) rfl 33 b.arr x2 238 Try.underlying33 rfl size33 hsb ?_)
    | (go_at_call 9; refine (HEB.out _).mono ?_; clear HEB; rintro e w4 ⟨rfl, h4⟩; have y1 := x1.below h4 x1.lt; have y2 := x2.below h4 x2.lt; have yb := xb.trans (h4.mono xb.size)))
  clear x1 x2 xb h4
  cases ma : mayR a with
  | false =>
    have e1 : encE a = 1 := by unfold encE; rw [ma]; rfl
    rw [e1]
    clear e1
    go_wp2_with (go_at_call 12; refine (HAW.out _).mono ?_; clear HAW; rintro e w5 ⟨rfl, h5⟩)
    go_ret
    exact ⟨rfl, yb.trans (h5.mono yb.size)⟩
  | true =>
    have e1 : encE a = 0 := by unfold encE; rw [ma]; rfl
    rw [e1]
    clear e1
    cases mb : mayR b with
    | false =>
      have e1 : encE b = 1 := by unfold encE; rw [mb]; rfl
      rw [e1]
      clear e1
      go_wp2_with (go_at_call 12; refine (HAW.out _).mono ?_; clear HAW; rintro e w5 ⟨rfl, h5⟩)
      go_ret
      exact ⟨rfl, yb.trans (h5.mono yb.size)⟩
    | true =>
      have e1 : encE b = 0 := by unfold encE; rw [mb]; rfl
      rw [e1]
      clear e1
      have hq := encS_eq ha hb ma mb
      by_cases q : a = b
      · rw [decide_eq_true q] at heq hq
        have hq' : (encS a).toList = (encS b).toList := by rw [of_decide_eq_true hq]
        generalize encS a = sa at hq' ⊢
        generalize encS b = sb at hq' ⊢
        clear hq q ma mb
        go_wp2_with (first
          | (refine load_cells rfl 33 (.tmp 2) rfl w.heap.size rfl 33 a.arr y1 238 Try.underlying33 rfl size33 hsa ?_)
          | (refine load_cells rfl 33 (.tmp 3) rfl (w.heap.size + 1) rfl 33 b.arr y2 238 Try.underlying33 rfl size33 hsb ?_)
          | (go_at_call 12; refine (HAW.out _).mono ?_; clear HAW; rintro e w5 ⟨rfl, h5⟩))
        go_ret
        exact ⟨rfl, yb.trans (h5.mono yb.size)⟩
      · rw [decide_eq_false q] at heq hq
        have hq0 : ¬ (encS a).toList = (encS b).toList := fun z => of_decide_eq_false hq (bytes_inj z)
        have hq' : ((encS a).toList == (encS b).toList) = false := by simpa using hq0
        clear hq0
        generalize encS a = sa at hq' ⊢
        generalize encS b = sb at hq' ⊢
        clear hq q ma mb
        go_wp2_with (first
          | (refine load_cells rfl 33 (.tmp 2) rfl w.heap.size rfl 33 a.arr y1 238 Try.underlying33 rfl size33 hsa ?_)
          | (refine load_cells rfl 33 (.tmp 3) rfl (w.heap.size + 1) rfl 33 b.arr y2 238 Try.underlying33 rfl size33 hsb ?_)
          | (go_at_call 12; refine (HAW.out _).mono ?_; clear HAW; rintro e w5 ⟨rfl, h5⟩))
        go_ret
        exact ⟨rfl, yb.trans (h5.mono yb.size)⟩

set_option maxRecDepth 100000 in
theorem lifted (os : Os) (started : os.Started) (H : Type) (enc : TypeId × Value → H) :
    ReturnsInHanded {} Try.checked os 7 .any (Rows.recUnlikeSpec.pre6 enc Try.prog Try.f7 Rows.recUnlikeRow.domain false) (Rows.recUnlikeSpec.post enc Try.prog Try.f7 false true false false) := by
  refine returnsInHanded_of_change_sized (C := Try.checked) own started (by kernel_rfl) Try.func7
    (ChangeSpec.witness6 (enc := enc) (C := Try.checked) false ⟨#[], #[.agg R.zero.arr, .agg R.zero.arr], []⟩ 8 (by kernel_rfl) (by kernel_rfl) (by kernel_rfl) (by kernel_rfl)) ?_
  intro W base args ds gs before hval0 hW hcnd hsz0 _
  have hval : ∀ (j : Nat) t v, Try.f7.params[j]? = some t → args[j]? = some v → Value.okWide Try.prog W .any base t v := hval0
  have hW' := hW
  obtain ⟨p, q, hA0, hV, rfl, hfz, hnd⟩ := hW
  have hA : DataW.TrodAll enc Try.prog W 0 (fun _ => true) true Try.f7.params.toList args.toList ds p := hA0
  have hsz : (DataW.weightsEach Try.prog (Try.f7.params.toList ++ []) (ds ++ gs)).all (· ≤ reachBytes) = true := hsz0
  rw [Try.params7] at hA hval hsz
  obtain ⟨v0, vs0, d0, ds0, p0, q0, hargs, rfl, rfl, h0, r0⟩ := trodAll_cons hA
  obtain ⟨v1, vs1, d1, ds1, p1, q1, rfl, rfl, rfl, h1, r1⟩ := trodAll_cons r0
  obtain ⟨rfl, rfl, rfl⟩ := trodAll_nil r1
  obtain rfl : args = #[v0, v1] := by cases args; simp_all
  obtain ⟨rfl, rfl⟩ := trodVars_none hV
  simp only [List.append_nil] at hsz
  have hlt : ∀ x ∈ (p0 ++ (p1 ++ [])), x.block < W.heap.size := fun x hx => hW'.lt x (by simpa using hx)
  have hw0 : (d0.weights Try.prog 33).all (· ≤ reachBytes) = true := List.all_eq_true.2 fun m hm => List.all_eq_true.1 hsz m (by simp [DataW.weightsEach, hm])
  have hw1 : (d1.weights Try.prog 33).all (· ≤ reachBytes) = true := List.all_eq_true.2 fun m hm => List.all_eq_true.1 hsz m (by simp [DataW.weightsEach, hm])
  have k0 := h0
  have k1 := h1
  obtain ⟨a0, rfl, w0⟩ := open_recv (hval 0 33 v0 rfl rfl) h0
  obtain ⟨a1, rfl, w1⟩ := open_recv (hval 1 33 v1 rfl rfl) h1
  clear hA0 hval0
  simp only [List.append_nil] at hW'
  refine (walk W a0 a1 w0 w1).mono fun e W' ⟨he, hg⟩ => ?_
  subst he
  exact ⟨_, rfl, ⟨_, _, _, [], (p0 ++ (p1 ++ [])), [], hW', (trodAll_cons_mk (shut_bool Try.underlying4 _) trodAll_mk0), (trodAll_cons_mk (Below.trod laidOut (by kernel_rfl) (of_decide_eq_true (by kernel_rfl)) k0 hg (fun x hx => hlt x (by simp [hx]))) (trodAll_cons_mk (Below.trod laidOut (by kernel_rfl) (of_decide_eq_true (by kernel_rfl)) k1 hg (fun x hx => hlt x (by simp [hx]))) trodAll_mk0)), rfl,
    hg.frame _, fun h => by cases h⟩⟩

theorem over : Rows.recUnlikeRow.holds Try.pinned (OpenSpec.ofChange Rows.recUnlikeSpec) :=
  OpenClaim.holds_of_wide 7 Try.f7 rfl rfl rfl rfl rfl rfl rfl ⟨rfl, rfl, rfl, rfl, rfl⟩ rfl rfl rfl rfl rfl (by kernel_rfl) Try.func7 (by kernel_rfl)
    (of_decide_eq_true (by kernel_rfl)) (by unfold Func.isWrapper; first | (rw [if_pos (by decide +kernel)]; kernel_rfl) | (rw [if_neg (by decide +kernel)]; exact ⟨rfl, rfl⟩))
    (fun os started H enc _ => lifted os started H enc)

/-- The statement. -/
theorem proved : Rows.RecUnlikeSaid :=
  over
#print axioms proved
end Go.Proofs.Ytihjapfgllokgaa.recUnlike
