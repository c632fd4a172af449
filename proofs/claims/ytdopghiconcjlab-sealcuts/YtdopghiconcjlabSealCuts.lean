/-
  Proved: for all blocks of 256 bytes and all ints the Go function varvelaw04.SealCuts returns true and leaves its arguments as they were; no condition.
-/
import Derived.Test.YtdopghiconcjlabRefCut
import Derived.Test.YtdopghiconcjlabShut
import Derived.Test.YtdopghiconcjlabHeld
namespace Go.Proofs.Ytdopghiconcjlab.sealCuts
open Go.ChangeShapes Go.WideShapes Go.ChangeAt Go.RowKit
open Go.ChangeMaps (open_string shut_string)
set_option linter.unusedVariables false
set_option linter.unusedSimpArgs false

theorem own : ownKnob Try.prog.godebug = none := by kernel_rfl

def Kept (w : World) (g : Nat) (a b c : List Int) (w' : World) : Prop := Row w' w.heap.size (bs a) 31 ∧ Row w' (w.heap.size + 1) (bs b) 31 ∧ Row w' g (bs c) 40 ∧ Below w.heap.size w w'
theorem Kept.on {w wa wb : World} {g : Nat} {a b c : List Int} (h : Kept w g a b c wa) (hb : Below wa.heap.size wa wb) : Kept w g a b c wb :=
  ⟨h.1.below hb h.1.lt, h.2.1.below hb h.2.1.lt, h.2.2.1.below hb h.2.2.1.lt, h.2.2.2.trans (hb.mono (Nat.le_of_lt h.1.lt))⟩

set_option maxHeartbeats 1000000 in
theorem walk (a b : List Int) (i k : Int) (ha : a.length = 256) (ya : Bytes a) (hb : b.length = 256) (yb : Bytes b) (w2 : (Lit.int .i64 i).wf = true) (w3 : (Lit.int .i64 k).wf = true) (w : World) :
    Calls Try.prog 6 #[.agg (bs a), .agg (bs b), .int .i64 i, .int .i64 k] w fun e w' => e = .returned (.bool true) ∧ Below w.heap.size w w' := by
  clear w2 w3 ya yb
  have hz := zero40
  have hC := cutZ_length a i ha
  obtain ⟨C, HC⟩ : ∃ C, Hid (cutZ a i = C) := ⟨_, rfl⟩
  rw [HC.out] at hC
  have hL := layZ_length b k C hb hC
  obtain ⟨L, HL⟩ : ∃ L, Hid (layZ b k C = L) := ⟨_, rfl⟩
  rw [HL.out] at hL
  have he : Hid (∀ w, (Op.equalIn 10000 40 (.agg (bs C)) (.agg (bs C))).run Try.prog w = .ok true w) := fun w => by rw [equal40 C C hC hC w]; simp
  have he' : Hid (∀ w, (Op.equalIn 10000 31 (.agg (bs L)) (.agg (bs L))).run Try.prog w = .ok true w) := fun w => by rw [equal31 L L hL hL w]; simp
  have a0 : Row ((w.alloc (.cells (bs a) 31)).alloc (.cells (bs b) 31)) w.heap.size (bs a) 31 := (Row.new _ _ _).alloc _
  have a1 : Row ((w.alloc (.cells (bs a) 31)).alloc (.cells (bs b) 31)) (w.heap.size + 1) (bs b) 31 := by have := Row.new (w.alloc (.cells (bs a) 31)) (bs b) 31; simpa using this
  have ab : Below w.heap.size w ((w.alloc (.cells (bs a) 31)).alloc (.cells (bs b) 31)) := ((Below.refl _ _).alloc (Nat.le_refl _) _).alloc (by simp) _
  go_enter Try.func6, Try.ntmps6
  go_wp2_with (first
    | (refine load_row rfl 31 (.tmp 4) rfl w.heap.size rfl 31 (bs a) a0 256 5 Try.underlying31 size31 (by rw [bs_size, ha]) ?_)
    | (go_at_call 15; refine (cut_all a ha i _).mono ?_; rw [HC.out]; rintro e wc ⟨rfl, hcb⟩)
    | (refine store_row rfl 40 (.tmp 9) (.tmp 12) rfl wc.heap.size C rfl rfl 40 _ (Row.new wc (bs (zs 64)) 40) 64 size40 (by rw [bs_size, zs_length]) hC ?_))
  have l0 := (a0.below hcb a0.lt).lt
  have l1 := (a1.below hcb a1.lt).lt
  have h0 : Kept w wc.heap.size a b C ((wc.alloc (.cells (bs (zs 64)) 40)).setRow wc.heap.size (bs C)) :=
    ⟨((a0.below hcb a0.lt).alloc _).other (Nat.ne_of_lt l0) _, ((a1.below hcb a1.lt).alloc _).other (Nat.ne_of_lt l1) _, (Row.new wc (bs (zs 64)) 40).set _,
      below_setRow ((ab.trans (hcb.mono (Nat.le_of_lt a0.lt))).alloc (Nat.le_of_lt l0) _) (Nat.le_of_lt l0) _⟩
  obtain ⟨g, hg⟩ : ∃ g, g = wc.heap.size := ⟨_, rfl⟩
  rw [← hg] at h0 ⊢
  generalize (wc.alloc (.cells (bs (zs 64)) 40)).setRow g (bs C) = w1 at h0 ⊢
  clear a0 a1 ab hcb l0 l1 hg
  have h1 : Kept w g a b C w1.drew := ⟨h0.1, h0.2.1, h0.2.2.1, h0.2.2.2.drew⟩
  refine wp_region_held_drew (S := Kept w g a b C) (by kernel_rfl) h1 fun hS => ?_
  refine wpAnyH_take (i := 0) (v := .agg (bs C)) rfl (by kernel_rfl) (by kernel_rfl) (by kernel_rfl) (fun _ _ _ h => h) (yields_row (by rfl) 40 (.tmp 9) rfl g rfl 40 (bs C) (fun w h => h.2.2.1) 64 5 Try.underlying40 size40 (by rw [bs_size, hC])) hS ?_
  try simp only [Act.put, List.getElem_toArray, List.getElem_cons_zero, List.getElem_cons_succ, List.setIfInBounds_toArray, List.set_cons_zero, List.set_cons_succ]
  refine wpAnyH_take (i := 1) (v := .agg (bs a)) rfl (by kernel_rfl) (by kernel_rfl) (by kernel_rfl) (fun _ _ _ h => h) (yields_row (by rfl) 31 (.tmp 4) rfl w.heap.size rfl 31 (bs a) (fun w h => h.1) 256 5 Try.underlying31 size31 (by rw [bs_size, ha])) hS ?_
  try simp only [Act.put, List.getElem_toArray, List.getElem_cons_zero, List.getElem_cons_succ, List.setIfInBounds_toArray, List.set_cons_zero, List.set_cons_succ]
  refine wpAnyH_take (i := 2) (v := .int .i64 i) rfl (by kernel_rfl) (by kernel_rfl) (by kernel_rfl) (fun _ _ _ h => h) (Or.inl ⟨by rfl, fun w _ => by rfl⟩) hS ?_
  try simp only [Act.put, List.getElem_toArray, List.getElem_cons_zero, List.getElem_cons_succ, List.setIfInBounds_toArray, List.set_cons_zero, List.set_cons_succ]
  refine wpAnyH_ready (rs := [3]) (by kernel_rfl) (by simp) ?_
  refine AllReadyH.cons rfl (fun K hK => ?_) AllReadyH.nil
  go_simp
  go_at_call 16
  refine (rcut_all a ha i _).mono ?_
  rw [HC.out]; rintro e wc ⟨rfl, hcb⟩
  refine hK.out _ _ (hS.on hcb) fun hS => ?_
  try simp only [Act.put, List.getElem_toArray, List.getElem_cons_zero, List.getElem_cons_succ, List.setIfInBounds_toArray, List.set_cons_zero, List.set_cons_succ]
  refine wpAnyH_take (i := 4) (v := .bool true) rfl (by kernel_rfl) (by kernel_rfl) (by kernel_rfl) (fun _ _ _ h => h) (yields_eq (by rfl) 40 40 (.tmp 13) (.tmp 16) rfl (bs C) (bs C) rfl rfl Try.eqGuardType40 true he.out) hS ?_
  try simp only [Act.put, List.getElem_toArray, List.getElem_cons_zero, List.getElem_cons_succ, List.setIfInBounds_toArray, List.set_cons_zero, List.set_cons_succ]
  refine wpAnyH_take (i := 5) (v := .bool true) rfl (by kernel_rfl) (by kernel_rfl) (by kernel_rfl) (fun _ _ _ h => h) (Or.inl ⟨by rfl, fun w _ => by rfl⟩) hS ?_
  try simp only [Act.put, List.getElem_toArray, List.getElem_cons_zero, List.getElem_cons_succ, List.setIfInBounds_toArray, List.set_cons_zero, List.set_cons_succ]
  refine wpAnyH_take (i := 6) (v := .agg (bs b)) rfl (by kernel_rfl) (by kernel_rfl) (by kernel_rfl) (fun _ _ _ h => h) (yields_row (by rfl) 31 (.tmp 5) rfl (w.heap.size + 1) rfl 31 (bs b) (fun w h => h.2.1) 256 5 Try.underlying31 size31 (by rw [bs_size, hb])) hS ?_
  try simp only [Act.put, List.getElem_toArray, List.getElem_cons_zero, List.getElem_cons_succ, List.setIfInBounds_toArray, List.set_cons_zero, List.set_cons_succ]
  refine wpAnyH_take (i := 7) (v := .int .i64 k) rfl (by kernel_rfl) (by kernel_rfl) (by kernel_rfl) (fun _ _ _ h => h) (Or.inl ⟨by rfl, fun w _ => by rfl⟩) hS ?_
  try simp only [Act.put, List.getElem_toArray, List.getElem_cons_zero, List.getElem_cons_succ, List.setIfInBounds_toArray, List.set_cons_zero, List.set_cons_succ]
  refine wpAnyH_take (i := 8) (v := .agg (bs C)) rfl (by kernel_rfl) (by kernel_rfl) (by kernel_rfl) (fun _ _ _ h => h) (yields_row (by rfl) 40 (.tmp 9) rfl g rfl 40 (bs C) (fun w h => h.2.2.1) 64 5 Try.underlying40 size40 (by rw [bs_size, hC])) hS ?_
  try simp only [Act.put, List.getElem_toArray, List.getElem_cons_zero, List.getElem_cons_succ, List.setIfInBounds_toArray, List.set_cons_zero, List.set_cons_succ]
  refine wpAnyH_take (i := 10) (v := .agg (bs b)) rfl (by kernel_rfl) (by kernel_rfl) (by kernel_rfl) (fun _ _ _ h => h) (yields_row (by rfl) 31 (.tmp 5) rfl (w.heap.size + 1) rfl 31 (bs b) (fun w h => h.2.1) 256 5 Try.underlying31 size31 (by rw [bs_size, hb])) hS ?_
  try simp only [Act.put, List.getElem_toArray, List.getElem_cons_zero, List.getElem_cons_succ, List.setIfInBounds_toArray, List.set_cons_zero, List.set_cons_succ]
  refine wpAnyH_take (i := 11) (v := .int .i64 k) rfl (by kernel_rfl) (by kernel_rfl) (by kernel_rfl) (fun _ _ _ h => h) (Or.inl ⟨by rfl, fun w _ => by rfl⟩) hS ?_
  try simp only [Act.put, List.getElem_toArray, List.getElem_cons_zero, List.getElem_cons_succ, List.setIfInBounds_toArray, List.set_cons_zero, List.set_cons_succ]
  refine wpAnyH_take (i := 12) (v := .agg (bs C)) rfl (by kernel_rfl) (by kernel_rfl) (by kernel_rfl) (fun _ _ _ h => h) (yields_row (by rfl) 40 (.tmp 9) rfl g rfl 40 (bs C) (fun w h => h.2.2.1) 64 5 Try.underlying40 size40 (by rw [bs_size, hC])) hS ?_
  try simp only [Act.put, List.getElem_toArray, List.getElem_cons_zero, List.getElem_cons_succ, List.setIfInBounds_toArray, List.set_cons_zero, List.set_cons_succ]
  refine wpAnyH_ready (rs := [9]) (by kernel_rfl) (by simp) ?_
  refine AllReadyH.cons rfl (fun K hK => ?_) AllReadyH.nil
  go_simp
  go_at_call 17
  refine (lay_all b C hb hC k _).mono ?_
  rw [HL.out]; rintro e wc ⟨rfl, hcb⟩
  refine hK.out _ _ (hS.on hcb) fun hS => ?_
  try simp only [Act.put, List.getElem_toArray, List.getElem_cons_zero, List.getElem_cons_succ, List.setIfInBounds_toArray, List.set_cons_zero, List.set_cons_succ]
  refine wpAnyH_ready (rs := [13]) (by kernel_rfl) (by simp) ?_
  refine AllReadyH.cons rfl (fun K hK => ?_) AllReadyH.nil
  go_simp
  go_at_call 18
  refine (rlay_all b C hb hC k _).mono ?_
  rw [HL.out]; rintro e wc ⟨rfl, hcb⟩
  refine hK.out _ _ (hS.on hcb) fun hS => ?_
  try simp only [Act.put, List.getElem_toArray, List.getElem_cons_zero, List.getElem_cons_succ, List.setIfInBounds_toArray, List.set_cons_zero, List.set_cons_succ]
  refine wpAnyH_take (i := 14) (v := .bool true) rfl (by kernel_rfl) (by kernel_rfl) (by kernel_rfl) (fun _ _ _ h => h) (yields_eq (by rfl) 31 31 (.tmp 22) (.tmp 26) rfl (bs L) (bs L) rfl rfl Try.eqGuardType31 true he'.out) hS ?_
  try simp only [Act.put, List.getElem_toArray, List.getElem_cons_zero, List.getElem_cons_succ, List.setIfInBounds_toArray, List.set_cons_zero, List.set_cons_succ]
  refine wpAnyH_take (i := 15) (v := .bool true) rfl (by kernel_rfl) (by kernel_rfl) (by kernel_rfl) (fun _ _ _ h => h) (Or.inl ⟨by rfl, fun w _ => by go_simp⟩) hS ?_
  try simp only [Act.put, List.getElem_toArray, List.getElem_cons_zero, List.getElem_cons_succ, List.setIfInBounds_toArray, List.set_cons_zero, List.set_cons_succ]
  refine wpAnyH_take (i := 16) (v := .bool true) rfl (by kernel_rfl) (by kernel_rfl) (by kernel_rfl) (fun _ _ _ h => h) (Or.inl ⟨by rfl, fun w _ => by rfl⟩) hS ?_
  try simp only [Act.put, List.getElem_toArray, List.getElem_cons_zero, List.getElem_cons_succ, List.setIfInBounds_toArray, List.set_cons_zero, List.set_cons_succ]
  refine wpAnyH_done (by kernel_rfl) ?_ _
  go_wp2
  go_ret
  exact ⟨rfl, hS.2.2.2⟩

set_option maxRecDepth 100000 in
theorem lifted (os : Os) (started : os.Started) (H : Type) (enc : TypeId × Value → H) :
    ReturnsInHanded {} Try.checked os 6 .any (Rows.sealCutsSpec.pre6 enc Try.prog Try.f6 Rows.sealCutsRow.domain false) (Rows.sealCutsSpec.post enc Try.prog Try.f6 false true false false) := by
  refine returnsInHanded_of_change (C := Try.checked) own started (by kernel_rfl) Try.func6
    (ChangeSpec.witness6 (enc := enc) (C := Try.checked) false ⟨#[], #[.agg (bs (zs 256)), .agg (bs (zs 256)), .int .i64 0, .int .i64 0], []⟩ 8 (by kernel_rfl) (by kernel_rfl) (by kernel_rfl) (by kernel_rfl)) ?_
  intro W base args ds gs before hval0 hW hcnd _
  have hval : ∀ (j : Nat) t v, Try.f6.params[j]? = some t → args[j]? = some v → Value.okWide Try.prog W .any base t v := hval0
  have hW' := hW
  obtain ⟨p, q, hA0, hV, rfl, hfz, hnd⟩ := hW
  have hA : DataW.TrodAll enc Try.prog W 0 (fun _ => true) true Try.f6.params.toList args.toList ds p := hA0
  rw [Try.params6] at hA hval
  obtain ⟨v0, vs0, d0, ds0, p0, q0, hargs, rfl, rfl, h0, r0⟩ := trodAll_cons hA
  obtain ⟨v1, vs1, d1, ds1, p1, q1, rfl, rfl, rfl, h1, r1⟩ := trodAll_cons r0
  obtain ⟨v2, vs2, d2, ds2, p2, q2, rfl, rfl, rfl, h2, r2⟩ := trodAll_cons r1
  obtain ⟨v3, vs3, d3, ds3, p3, q3, rfl, rfl, rfl, h3, r3⟩ := trodAll_cons r2
  obtain ⟨rfl, rfl, rfl⟩ := trodAll_nil r3
  obtain rfl : args = #[v0, v1, v2, v3] := by cases args; simp_all
  obtain ⟨rfl, rfl⟩ := trodVars_none hV
  obtain ⟨a0, rfl, rfl, rfl, l0, w0⟩ := open_bytes Try.underlying31 Try.underlying5 cells5 (by kernel_rfl) (hval 0 31 v0 rfl rfl) h0
  obtain ⟨a1, rfl, rfl, rfl, l1, w1⟩ := open_bytes Try.underlying31 Try.underlying5 cells5 (by kernel_rfl) (hval 1 31 v1 rfl rfl) h1
  obtain ⟨a2, rfl, rfl, rfl, w2⟩ := open_int Try.underlying3 (hval 2 3 v2 rfl rfl) h2
  obtain ⟨a3, rfl, rfl, rfl, w3⟩ := open_int Try.underlying3 (hval 3 3 v3 rfl rfl) h3
  clear hA0 hval0
  simp only [List.append_nil] at hW'
  refine (walk a0 a1 a2 a3 l0 w0 l1 w1 w2 w3 W).mono fun e W' ⟨he, hg⟩ => ?_
  subst he
  exact ⟨_, rfl, ⟨_, _, _, [], [], [], hW', (trodAll_cons_mk (shut_bool Try.underlying4 _) trodAll_mk0), (trodAll_cons_mk (shut_bytes Try.underlying31 Try.underlying5 cells5 (by kernel_rfl) l0 w0) (trodAll_cons_mk (shut_bytes Try.underlying31 Try.underlying5 cells5 (by kernel_rfl) l1 w1) (trodAll_cons_mk (shut_int Try.underlying3 w2) (trodAll_cons_mk (shut_int Try.underlying3 w3) trodAll_mk0)))), rfl,
    hg.frame _, fun h => by cases h⟩⟩

theorem over : Rows.sealCutsRow.holds Try.pinned (OpenSpec.ofChange Rows.sealCutsSpec) :=
  OpenClaim.holds_of_wide 6 Try.f6 rfl rfl rfl rfl rfl rfl rfl ⟨rfl, rfl, rfl, rfl, rfl⟩ rfl rfl rfl rfl rfl (by kernel_rfl) Try.func6 (by kernel_rfl)
    (of_decide_eq_true (by kernel_rfl)) (by unfold Func.isWrapper; first | (rw [if_pos (by decide +kernel)]; kernel_rfl) | (rw [if_neg (by decide +kernel)]; exact ⟨rfl, rfl⟩))
    (fun os started H enc _ => lifted os started H enc)

/-- The statement. -/
theorem proved : Rows.SealCutsSaid :=
  over
#print axioms proved
end Go.Proofs.Ytdopghiconcjlab.sealCuts
