/-
  Proved: for every two bodies of 64 bytes the Go function varvelaw03.DeltaMakes returns true and leaves its arguments as they were; no condition.
-/
import Derived.Test.YtdopghiconcjlaaRmake
import Derived.Test.YtdopghiconcjlaaShut
namespace Go.Proofs.Ytdopghiconcjlaa.deltaMakes
open Go.ChangeShapes Go.WideShapes Go.ChangeAt Go.RowKit
open Go.ChangeMaps (open_string shut_string)
set_option linter.unusedVariables false
set_option linter.unusedSimpArgs false

theorem own : ownKnob Try.prog.godebug = none := by kernel_rfl

def Kept (w : World) (x y : List Int) (w' : World) : Prop := Row w' w.heap.size (bs x) 23 ∧ Row w' (w.heap.size + 1) (bs y) 23 ∧ Below w.heap.size w w'
theorem Kept.on {w wa wb : World} {x y : List Int} (h : Kept w x y wa) (hb : Below wa.heap.size wa wb) : Kept w x y wb :=
  ⟨h.1.below hb h.1.lt, h.2.1.below hb h.2.1.lt, h.2.2.trans (hb.mono (Nat.le_of_lt h.1.lt))⟩

theorem walk (x y : List Int) (hx : x.length = 64) (xb : Bytes x) (hy : y.length = 64) (yb : Bytes y) (w : World) :
    Calls Try.prog 3 #[.agg (bs x), .agg (bs y)] w fun e w' => e = .returned (.bool true) ∧ Below w.heap.size w w' := by
  have h0 : Kept w x y ((w.alloc (.cells (bs x) 23)).alloc (.cells (bs y) 23)) :=
    ⟨(Row.new _ _ _).alloc _, by have := Row.new (w.alloc (.cells (bs x) 23)) (bs y) 23; simpa using this, ((Below.refl _ _).alloc (Nat.le_refl _) _).alloc (by simp) _⟩
  obtain ⟨B, HB⟩ : ∃ B, Hid (strOfNums (tell y (hasD x y 64)) = B) := ⟨_, rfl⟩
  go_enter Try.func3, Try.ntmps3
  go_wp2
  generalize (w.alloc (.cells (bs x) 23)).alloc (.cells (bs y) 23) = w1 at h0 ⊢
  have h1 : Kept w x y w1.drew := ⟨h0.1, h0.2.1, h0.2.2.drew⟩
  refine wp_region_held_drew (S := Kept w x y) (by kernel_rfl) h1 fun hS => ?_
  refine wpAnyH_take (i := 0) (v := .agg (bs x)) rfl (by kernel_rfl) (by kernel_rfl) (by kernel_rfl) (fun _ _ _ h => h) (yields_row (by rfl) 23 (.tmp 2) rfl w.heap.size rfl 23 (bs x) (fun w h => h.1) 64 5 Try.underlying23 size23 (by rw [bs_size, hx])) hS ?_
  try simp only [Act.put, List.getElem_toArray, List.getElem_cons_zero, List.getElem_cons_succ, List.setIfInBounds_toArray, List.set_cons_zero, List.set_cons_succ]
  refine wpAnyH_take (i := 1) (v := .agg (bs y)) rfl (by kernel_rfl) (by kernel_rfl) (by kernel_rfl) (fun _ _ _ h => h) (yields_row (by rfl) 23 (.tmp 3) rfl (w.heap.size + 1) rfl 23 (bs y) (fun w h => h.2.1) 64 5 Try.underlying23 size23 (by rw [bs_size, hy])) hS ?_
  try simp only [Act.put, List.getElem_toArray, List.getElem_cons_zero, List.getElem_cons_succ, List.setIfInBounds_toArray, List.set_cons_zero, List.set_cons_succ]
  refine wpAnyH_take (i := 3) (v := .agg (bs x)) rfl (by kernel_rfl) (by kernel_rfl) (by kernel_rfl) (fun _ _ _ h => h) (yields_row (by rfl) 23 (.tmp 2) rfl w.heap.size rfl 23 (bs x) (fun w h => h.1) 64 5 Try.underlying23 size23 (by rw [bs_size, hx])) hS ?_
  try simp only [Act.put, List.getElem_toArray, List.getElem_cons_zero, List.getElem_cons_succ, List.setIfInBounds_toArray, List.set_cons_zero, List.set_cons_succ]
  refine wpAnyH_take (i := 4) (v := .agg (bs y)) rfl (by kernel_rfl) (by kernel_rfl) (by kernel_rfl) (fun _ _ _ h => h) (yields_row (by rfl) 23 (.tmp 3) rfl (w.heap.size + 1) rfl 23 (bs y) (fun w h => h.2.1) 64 5 Try.underlying23 size23 (by rw [bs_size, hy])) hS ?_
  try simp only [Act.put, List.getElem_toArray, List.getElem_cons_zero, List.getElem_cons_succ, List.setIfInBounds_toArray, List.set_cons_zero, List.set_cons_succ]
  refine wpAnyH_ready (rs := [2]) (by kernel_rfl) (by simp) ?_
  refine AllReadyH.cons rfl (fun K hK => ?_) AllReadyH.nil
  go_simp
  go_at_call 9
  refine (make_any x y hx hy _).mono ?_
  rw [HB.out]; rintro e wc ⟨rfl, hcb⟩
  refine hK.out _ _ (hS.on hcb) fun hS => ?_
  try simp only [Act.put, List.getElem_toArray, List.getElem_cons_zero, List.getElem_cons_succ, List.setIfInBounds_toArray, List.set_cons_zero, List.set_cons_succ]
  refine wpAnyH_ready (rs := [5]) (by kernel_rfl) (by simp) ?_
  refine AllReadyH.cons rfl (fun K hK => ?_) AllReadyH.nil
  go_simp
  go_at_call 10
  refine (rmake_any x y hx hy yb _).mono ?_
  rw [HB.out]; rintro e wc ⟨rfl, hcb⟩
  refine hK.out _ _ (hS.on hcb) fun hS => ?_
  try simp only [Act.put, List.getElem_toArray, List.getElem_cons_zero, List.getElem_cons_succ, List.setIfInBounds_toArray, List.set_cons_zero, List.set_cons_succ]
  refine wpAnyH_take (i := 6) (v := .bool true) rfl (by kernel_rfl) (by kernel_rfl) (by kernel_rfl) (fun _ _ _ h => h) (Or.inl ⟨by rfl, fun w _ => by go_simp⟩) hS ?_
  try simp only [Act.put, List.getElem_toArray, List.getElem_cons_zero, List.getElem_cons_succ, List.setIfInBounds_toArray, List.set_cons_zero, List.set_cons_succ]
  refine wpAnyH_take (i := 7) (v := .bool true) rfl (by kernel_rfl) (by kernel_rfl) (by kernel_rfl) (fun _ _ _ h => h) (Or.inl ⟨by rfl, fun w _ => by rfl⟩) hS ?_
  try simp only [Act.put, List.getElem_toArray, List.getElem_cons_zero, List.getElem_cons_succ, List.setIfInBounds_toArray, List.set_cons_zero, List.set_cons_succ]
  refine wpAnyH_done (by kernel_rfl) ?_ _
  go_wp2
  go_ret
  exact ⟨rfl, hS.2.2⟩

set_option maxRecDepth 100000 in
theorem lifted (os : Os) (started : os.Started) (H : Type) (enc : TypeId × Value → H) :
    ReturnsInHanded {} Try.checked os 3 .any (Rows.deltaMakesSpec.pre6 enc Try.prog Try.f3 Rows.deltaMakesRow.domain false) (Rows.deltaMakesSpec.post enc Try.prog Try.f3 false true false false) := by
  refine returnsInHanded_of_change (C := Try.checked) own started (by kernel_rfl) Try.func3
    (ChangeSpec.witness6 (enc := enc) (C := Try.checked) false ⟨#[], #[.agg (bs (zs 64)), .agg (bs (zs 64))], []⟩ 8 (by kernel_rfl) (by kernel_rfl) (by kernel_rfl) (by kernel_rfl)) ?_
  intro W base args ds gs before hval0 hW hcnd _
  have hval : ∀ (j : Nat) t v, Try.f3.params[j]? = some t → args[j]? = some v → Value.okWide Try.prog W .any base t v := hval0
  have hW' := hW
  obtain ⟨p, q, hA0, hV, rfl, hfz, hnd⟩ := hW
  have hA : DataW.TrodAll enc Try.prog W 0 (fun _ => true) true Try.f3.params.toList args.toList ds p := hA0
  rw [Try.params3] at hA hval
  obtain ⟨v0, vs0, d0, ds0, p0, q0, hargs, rfl, rfl, h0, r0⟩ := trodAll_cons hA
  obtain ⟨v1, vs1, d1, ds1, p1, q1, rfl, rfl, rfl, h1, r1⟩ := trodAll_cons r0
  obtain ⟨rfl, rfl, rfl⟩ := trodAll_nil r1
  obtain rfl : args = #[v0, v1] := by cases args; simp_all
  obtain ⟨rfl, rfl⟩ := trodVars_none hV
  obtain ⟨a0, rfl, rfl, rfl, l0, w0⟩ := open_bytes Try.underlying23 Try.underlying5 cells5 (by kernel_rfl) (hval 0 23 v0 rfl rfl) h0
  obtain ⟨a1, rfl, rfl, rfl, l1, w1⟩ := open_bytes Try.underlying23 Try.underlying5 cells5 (by kernel_rfl) (hval 1 23 v1 rfl rfl) h1
  clear hA0 hval0
  simp only [List.append_nil] at hW'
  refine (walk a0 a1 l0 w0 l1 w1 W).mono fun e W' ⟨he, hg⟩ => ?_
  subst he
  exact ⟨_, rfl, ⟨_, _, _, [], [], [], hW', (trodAll_cons_mk (shut_bool Try.underlying4 _) trodAll_mk0), (trodAll_cons_mk (shut_bytes Try.underlying23 Try.underlying5 cells5 (by kernel_rfl) l0 w0) (trodAll_cons_mk (shut_bytes Try.underlying23 Try.underlying5 cells5 (by kernel_rfl) l1 w1) trodAll_mk0)), rfl,
    hg.frame _, fun h => by cases h⟩⟩

theorem over : Rows.deltaMakesRow.holds Try.pinned (OpenSpec.ofChange Rows.deltaMakesSpec) :=
  OpenClaim.holds_of_wide 3 Try.f3 rfl rfl rfl rfl rfl rfl rfl ⟨rfl, rfl, rfl, rfl, rfl⟩ rfl rfl rfl rfl rfl (by kernel_rfl) Try.func3 (by kernel_rfl)
    (of_decide_eq_true (by kernel_rfl)) (by unfold Func.isWrapper; first | (rw [if_pos (by decide +kernel)]; kernel_rfl) | (rw [if_neg (by decide +kernel)]; exact ⟨rfl, rfl⟩))
    (fun os started H enc _ => lifted os started H enc)

/-- The statement. -/
theorem proved : Rows.DeltaMakesSaid :=
  over
#print axioms proved
end Go.Proofs.Ytdopghiconcjlaa.deltaMakes
