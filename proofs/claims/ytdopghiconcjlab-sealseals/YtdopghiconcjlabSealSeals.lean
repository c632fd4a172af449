/-
  Proved: for every uint64 stamp and every payload of 224 bytes the Go function varvelaw04.SealSeals returns true and leaves its arguments as they were; no condition.
-/
import Derived.Test.YtdopghiconcjlabRefSeal
import Derived.Test.YtdopghiconcjlabShut
import Derived.Test.YtdopghiconcjlabHeld
namespace Go.Proofs.Ytdopghiconcjlab.sealSeals
open Go.ChangeShapes Go.WideShapes Go.ChangeAt Go.RowKit
open Go.ChangeMaps (open_string shut_string)
set_option linter.unusedVariables false
set_option linter.unusedSimpArgs false

theorem own : ownKnob Try.prog.godebug = none := by kernel_rfl

def Kept (w : World) (p : List Int) (w' : World) : Prop := Row w' w.heap.size (bs p) 29 ∧ Below w.heap.size w w'
theorem Kept.on {w wa wb : World} {p : List Int} (h : Kept w p wa) (hb : Below wa.heap.size wa wb) : Kept w p wb :=
  ⟨h.1.below hb h.1.lt, h.2.trans (hb.mono (Nat.le_of_lt h.1.lt))⟩

theorem walk (v : Int) (p : List Int) (w0 : (Lit.int .u64 v).wf = true) (hp : p.length = 224) (hy : Bytes p) (w : World) :
    Calls Try.prog 4 #[.int .u64 v, .agg (bs p)] w fun e w' => e = .returned (.bool true) ∧ Below w.heap.size w w' := by
  have hv := (bounds_u64 w0).1
  have hv' := (bounds_u64 w0).2
  clear w0
  have hl := sealN_length v p 4 (by omega)
  obtain ⟨B, HB⟩ : ∃ B, Hid (sealN v p 4 = B) := ⟨_, rfl⟩
  rw [HB.out] at hl
  have he : Hid (∀ w, (Op.equalIn 10000 31 (.agg (bs B)) (.agg (bs B))).run Try.prog w = .ok true w) := fun w => by rw [equal31 B B hl hl w]; simp
  have h0 : Kept w p (w.alloc (.cells (bs p) 29)) := ⟨Row.new _ _ _, (Below.refl _ _).alloc (Nat.le_refl _) _⟩
  go_enter Try.func4, Try.ntmps4
  go_wp2
  generalize w.alloc (.cells (bs p) 29) = w1 at h0 ⊢
  have h1 : Kept w p w1.drew := ⟨h0.1, h0.2.drew⟩
  refine wp_region_held_drew (S := Kept w p) (by kernel_rfl) h1 fun hS => ?_
  refine wpAnyH_take (i := 0) (v := .int .u64 v) rfl (by kernel_rfl) (by kernel_rfl) (by kernel_rfl) (fun _ _ _ h => h) (Or.inl ⟨by rfl, fun w _ => by rfl⟩) hS ?_
  try simp only [Act.put, List.getElem_toArray, List.getElem_cons_zero, List.getElem_cons_succ, List.setIfInBounds_toArray, List.set_cons_zero, List.set_cons_succ]
  refine wpAnyH_take (i := 1) (v := .agg (bs p)) rfl (by kernel_rfl) (by kernel_rfl) (by kernel_rfl) (fun _ _ _ h => h) (yields_row (by rfl) 29 (.tmp 3) rfl w.heap.size rfl 29 (bs p) (fun w h => h.1) 224 5 Try.underlying29 size29 (by rw [bs_size, hp])) hS ?_
  try simp only [Act.put, List.getElem_toArray, List.getElem_cons_zero, List.getElem_cons_succ, List.setIfInBounds_toArray, List.set_cons_zero, List.set_cons_succ]
  refine wpAnyH_take (i := 3) (v := .int .u64 v) rfl (by kernel_rfl) (by kernel_rfl) (by kernel_rfl) (fun _ _ _ h => h) (Or.inl ⟨by rfl, fun w _ => by rfl⟩) hS ?_
  try simp only [Act.put, List.getElem_toArray, List.getElem_cons_zero, List.getElem_cons_succ, List.setIfInBounds_toArray, List.set_cons_zero, List.set_cons_succ]
  refine wpAnyH_take (i := 4) (v := .agg (bs p)) rfl (by kernel_rfl) (by kernel_rfl) (by kernel_rfl) (fun _ _ _ h => h) (yields_row (by rfl) 29 (.tmp 3) rfl w.heap.size rfl 29 (bs p) (fun w h => h.1) 224 5 Try.underlying29 size29 (by rw [bs_size, hp])) hS ?_
  try simp only [Act.put, List.getElem_toArray, List.getElem_cons_zero, List.getElem_cons_succ, List.setIfInBounds_toArray, List.set_cons_zero, List.set_cons_succ]
  refine wpAnyH_ready (rs := [2]) (by kernel_rfl) (by simp) ?_
  refine AllReadyH.cons rfl (fun K hK => ?_) AllReadyH.nil
  go_simp
  go_at_call 11
  refine (seal_any v p hp _ hv hv').mono ?_
  rw [HB.out]; rintro e wc ⟨rfl, hcb⟩
  refine hK.out _ _ (hS.on hcb) fun hS => ?_
  try simp only [Act.put, List.getElem_toArray, List.getElem_cons_zero, List.getElem_cons_succ, List.setIfInBounds_toArray, List.set_cons_zero, List.set_cons_succ]
  refine wpAnyH_ready (rs := [5]) (by kernel_rfl) (by simp) ?_
  refine AllReadyH.cons rfl (fun K hK => ?_) AllReadyH.nil
  go_simp
  go_at_call 12
  refine (rseal_any v p hp hy _ hv hv').mono ?_
  rw [HB.out]; rintro e wc ⟨rfl, hcb⟩
  refine hK.out _ _ (hS.on hcb) fun hS => ?_
  try simp only [Act.put, List.getElem_toArray, List.getElem_cons_zero, List.getElem_cons_succ, List.setIfInBounds_toArray, List.set_cons_zero, List.set_cons_succ]
  refine wpAnyH_take (i := 6) (v := .bool true) rfl (by kernel_rfl) (by kernel_rfl) (by kernel_rfl) (fun _ _ _ h => h) (yields_eq (by rfl) 31 31 (.tmp 7) (.tmp 10) rfl (bs B) (bs B) rfl rfl Try.eqGuardType31 true he.out) hS ?_
  try simp only [Act.put, List.getElem_toArray, List.getElem_cons_zero, List.getElem_cons_succ, List.setIfInBounds_toArray, List.set_cons_zero, List.set_cons_succ]
  refine wpAnyH_take (i := 7) (v := .bool true) rfl (by kernel_rfl) (by kernel_rfl) (by kernel_rfl) (fun _ _ _ h => h) (Or.inl ⟨by rfl, fun w _ => by rfl⟩) hS ?_
  try simp only [Act.put, List.getElem_toArray, List.getElem_cons_zero, List.getElem_cons_succ, List.setIfInBounds_toArray, List.set_cons_zero, List.set_cons_succ]
  refine wpAnyH_done (by kernel_rfl) ?_ _
  go_wp2
  go_ret
  exact ⟨rfl, hS.2⟩

set_option maxRecDepth 100000 in
theorem lifted (os : Os) (started : os.Started) (H : Type) (enc : TypeId × Value → H) :
    ReturnsInHanded {} Try.checked os 4 .any (Rows.sealSealsSpec.pre6 enc Try.prog Try.f4 Rows.sealSealsRow.domain false) (Rows.sealSealsSpec.post enc Try.prog Try.f4 false true false false) := by
  refine returnsInHanded_of_change (C := Try.checked) own started (by kernel_rfl) Try.func4
    (ChangeSpec.witness6 (enc := enc) (C := Try.checked) false ⟨#[], #[.int .u64 0, .agg (bs (zs 224))], []⟩ 8 (by kernel_rfl) (by kernel_rfl) (by kernel_rfl) (by kernel_rfl)) ?_
  intro W base args ds gs before hval0 hW hcnd _
  have hval : ∀ (j : Nat) t v, Try.f4.params[j]? = some t → args[j]? = some v → Value.okWide Try.prog W .any base t v := hval0
  have hW' := hW
  obtain ⟨p, q, hA0, hV, rfl, hfz, hnd⟩ := hW
  have hA : DataW.TrodAll enc Try.prog W 0 (fun _ => true) true Try.f4.params.toList args.toList ds p := hA0
  rw [Try.params4] at hA hval
  obtain ⟨v0, vs0, d0, ds0, p0, q0, hargs, rfl, rfl, h0, r0⟩ := trodAll_cons hA
  obtain ⟨v1, vs1, d1, ds1, p1, q1, rfl, rfl, rfl, h1, r1⟩ := trodAll_cons r0
  obtain ⟨rfl, rfl, rfl⟩ := trodAll_nil r1
  obtain rfl : args = #[v0, v1] := by cases args; simp_all
  obtain ⟨rfl, rfl⟩ := trodVars_none hV
  obtain ⟨a0, rfl, rfl, rfl, w0⟩ := open_int Try.underlying27 (hval 0 27 v0 rfl rfl) h0
  obtain ⟨a1, rfl, rfl, rfl, l1, w1⟩ := open_bytes Try.underlying29 Try.underlying5 cells5 (by kernel_rfl) (hval 1 29 v1 rfl rfl) h1
  clear hA0 hval0
  simp only [List.append_nil] at hW'
  refine (walk a0 a1 w0 l1 w1 W).mono fun e W' ⟨he, hg⟩ => ?_
  subst he
  exact ⟨_, rfl, ⟨_, _, _, [], [], [], hW', (trodAll_cons_mk (shut_bool Try.underlying4 _) trodAll_mk0), (trodAll_cons_mk (shut_int Try.underlying27 w0) (trodAll_cons_mk (shut_bytes Try.underlying29 Try.underlying5 cells5 (by kernel_rfl) l1 w1) trodAll_mk0)), rfl,
    hg.frame _, fun h => by cases h⟩⟩

theorem over : Rows.sealSealsRow.holds Try.pinned (OpenSpec.ofChange Rows.sealSealsSpec) :=
  OpenClaim.holds_of_wide 4 Try.f4 rfl rfl rfl rfl rfl rfl rfl ⟨rfl, rfl, rfl, rfl, rfl⟩ rfl rfl rfl rfl rfl (by kernel_rfl) Try.func4 (by kernel_rfl)
    (of_decide_eq_true (by kernel_rfl)) (by unfold Func.isWrapper; first | (rw [if_pos (by decide +kernel)]; kernel_rfl) | (rw [if_neg (by decide +kernel)]; exact ⟨rfl, rfl⟩))
    (fun os started H enc _ => lifted os started H enc)

/-- The statement. -/
theorem proved : Rows.SealSealsSaid :=
  over
#print axioms proved
end Go.Proofs.Ytdopghiconcjlab.sealSeals
