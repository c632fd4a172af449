/-
  Proved here: what Ask of the document's turn answers, and makes of it.
-/
import Derived.Test.YtmnbfcmamhinbaaTrs
namespace Go.Proofs.Ytmnbfcmamhinbaa.Tu
open Go.ChangeShapes Go.WideShapes Go.ChangeAt Go.RowKit
open Go.Deep
set_option linter.unusedVariables false
set_option linter.unusedSimpArgs false

theorem step_of {o : Oper} {ops : Array Oper} {a : Act} {w : World} {K : Act → World → Prop} {Q : Exit → Act → World → Prop} {E : Prop} (hgd : o.guard = none) (h : Oper.wp Try.prog o a w K Q) : if Region.wanted o (yielded ops a.tmps) = true then Oper.wp Try.prog o a w K Q else E := by
  rw [if_pos (by simp [Region.wanted, hgd])]; exact h
/-- What Ask of the document's turn leaves, where one isn't in the line. -/
def RAsked (w : World) (r : Nat) (N : Int) (L : List On.O) (x : Int) (e : Ending) (w' : World) : Prop :=
  e = .returned (.bool (rhasV (⟨x, N + 1⟩ :: L) x)) ∧ ∃ v', RtAt w' r v' (N + 1) (⟨x, N + 1⟩ :: L) ∧ Off (· = r) w w'
theorem rask_old {w : World} {r : Nat} {v : Value} {N : Int} {L : List On.O} (c : RtAt w r v N L) (x : Int) (h0 : ¬ whenL L x = 0) : Calls Try.prog 27 #[.pointer (some ⟨r, 0, none⟩), .int .i64 x] w fun e w' => e = .returned (.bool (rhasV L x)) ∧ Below w.heap.size w w' := by
  have hat := rat_any c x
  have HH : Hid (∀ w', RtAt w' r v N L → Calls Try.prog 31 #[.pointer (some ⟨r, 0, none⟩), .int .i64 x] w' fun e w2 => e = .returned (.bool (rhasV L x)) ∧ Below w'.heap.size w' w2) := fun w' c' => rhas_any c' x
  obtain ⟨a, HA⟩ : ∃ a, Hid (whenL L x = a) := ⟨_, rfl⟩
  rw [HA.out] at hat h0
  obtain ⟨b, HB⟩ : ∃ b, Hid (rhasV L x = b) := ⟨_, rfl⟩
  rw [HB.out] at HH
  go_enter Try.func27, Try.ntmps27
  go_wp2_with (first
    | (go_at_call 33; refine hat.mono ?_; clear hat; rintro e w1 ⟨he, b1⟩; obtain rfl := he; have c1 := c.below b1)
    | (go_at_call 31; refine (HH.out _ c1).mono ?_; clear HH; rintro e w2 ⟨he, b2⟩; obtain rfl := he))
  go_ret
  exact ⟨by rw [HB.out]; rfl, b1.trans (b2.mono b1.size)⟩
set_option maxHeartbeats 4000000 in
set_option maxRecDepth 20000 in
theorem rask_new {w : World} {r : Nat} {v : Value} {N : Int} {L : List On.O} (c : RtAt w r v N L) (x : Int) (h0 : whenL L x = 0) (hs : L.length < 100) (hN : 0 ≤ N ∧ N < 1000000) : Calls Try.prog 27 #[.pointer (some ⟨r, 0, none⟩), .int .i64 x] w fun e w' => RAsked w r N L x e w' := by
  have hat := rat_any c x
  rw [h0] at hat
  obtain ⟨oa, cap, hv⟩ := c.own.form
  subst hv
  obtain ⟨M, HM⟩ : ∃ M, Hid (L.length = M) := ⟨_, rfl⟩
  have hM : M < 100 := by rw [← HM.out]; exact hs
  have hwN : IntKind.i64.wrap (N + 1) = N + 1 := by rw [IntKind.wrap_i64]; omega
  rw [HM.out] at c
  have HLD : Hid (∀ w', Row w' r #[.slice oa M cap, .int .i64 (N + 1)] 69 ∧ Off (· = r) w w' → w'.cell? ⟨r, 0, none⟩ = some (.slice oa M cap)) := fun w' h => row_at h.1 0 _ rfl
  have HLD1 : Hid (∀ w', Row w' r #[.slice oa M cap, .int .i64 (N + 1)] 69 ∧ Off (· = r) w w' → w'.cell? ⟨r, 1, none⟩ = some (.int .i64 (N + 1))) := fun w' h => row_at h.1 1 _ rfl
  have HH : Hid (∀ w' v', RtAt w' r v' (N + 1) (⟨x, N + 1⟩ :: L) → Calls Try.prog 31 #[.pointer (some ⟨r, 0, none⟩), .int .i64 x] w' fun e w2 => e = .returned (.bool (rhasV (⟨x, N + 1⟩ :: L) x)) ∧ Below w'.heap.size w' w2) := fun w' v' c' => rhas_any c' x
  obtain ⟨PP, HPP⟩ : ∃ PP : Ending → World → Prop, Hid (PP = fun e w' => RAsked w r N L x e w') := ⟨_, rfl⟩
  rw [← HPP.out]
  clear h0
  go_enter Try.func27, Try.ntmps27
  go_upto_region 3 with (go_at_call 33; refine hat.mono ?_; clear hat; rintro e w1 ⟨he, b1⟩; obtain rfl := he; have C1 := c.below b1; have O1 : Off (· = r) w w1 := Off.of_below b1; have d1 := row_at C1.row 1 _ rfl; have f1 := row_frozen C1.row 1; clear b1 c; have R1 : Row (w1.setCell ⟨r, 1, none⟩ (.int .i64 (N + 1))) r #[.slice oa M cap, .int .i64 (N + 1)] 69 := row_set C1.row 1 _; have own0 : On.Own (w1.setCell ⟨r, 1, none⟩ (.int .i64 (N + 1))) (r + 1) (.slice oa M cap) L := C1.own.other r 1 _ (by omega); have O2 := O1.trans (Off.of_setCell (F := (· = r)) w1 ⟨r, 1, none⟩ (.int .i64 (N + 1)) rfl) (fun q e => Or.inl e); clear C1 O1)
  generalize w1.setCell ⟨r, 1, none⟩ (.int .i64 (N + 1)) = W at R1 own0 O2 ⊢
  clear d1 f1
  refine wp_region_last (S := fun w' => Row w' r #[.slice oa M cap, .int .i64 (N + 1)] 69 ∧ Off (· = r) w w') 15 (by kernel_rfl) ⟨R1, O2.drew⟩ fun hS => ?_
  refine wpAnyL_take (i := 0) (v := .pointer (some ⟨r, 0, none⟩)) rfl (by kernel_rfl) (by kernel_rfl) (by kernel_rfl) (by kernel_rfl) (fun _ _ _ h => h) (Or.inl ⟨by rfl, fun w _ => by rfl⟩) hS ?_
  try simp only [Act.put, List.getElem_toArray, List.getElem_cons_zero, List.getElem_cons_succ, List.setIfInBounds_toArray, List.set_cons_zero, List.set_cons_succ]
  refine wpAnyL_take (i := 1) (v := .int .i64 x) rfl (by kernel_rfl) (by kernel_rfl) (by kernel_rfl) (by kernel_rfl) (fun _ _ _ h => h) (Or.inl ⟨by rfl, fun w _ => by rfl⟩) hS ?_
  try simp only [Act.put, List.getElem_toArray, List.getElem_cons_zero, List.getElem_cons_succ, List.setIfInBounds_toArray, List.set_cons_zero, List.set_cons_succ]
  refine wpAnyL_take (i := 2) (v := .pointer (some ⟨r, 0, none⟩)) rfl (by kernel_rfl) (by kernel_rfl) (by kernel_rfl) (by kernel_rfl) (fun _ _ _ h => h) (Or.inl ⟨by rfl, fun w _ => by rfl⟩) hS ?_
  try simp only [Act.put, List.getElem_toArray, List.getElem_cons_zero, List.getElem_cons_succ, List.setIfInBounds_toArray, List.set_cons_zero, List.set_cons_succ]
  refine wpAnyL_take (i := 3) (v := .pointer (some ⟨r, 0, none⟩)) rfl (by kernel_rfl) (by kernel_rfl) (by kernel_rfl) (by kernel_rfl) (fun _ _ _ h => h) (Or.inl ⟨by rfl, fun w _ => by go_simp⟩) hS ?_
  try simp only [Act.put, List.getElem_toArray, List.getElem_cons_zero, List.getElem_cons_succ, List.setIfInBounds_toArray, List.set_cons_zero, List.set_cons_succ]
  refine wpAnyL_take (i := 4) (v := .pointer (some ⟨r, 1, none⟩)) rfl (by kernel_rfl) (by kernel_rfl) (by kernel_rfl) (by kernel_rfl) (fun _ _ _ h => h) (Or.inl ⟨by rfl, fun w _ => by go_simp⟩) hS ?_
  try simp only [Act.put, List.getElem_toArray, List.getElem_cons_zero, List.getElem_cons_succ, List.setIfInBounds_toArray, List.set_cons_zero, List.set_cons_succ]
  refine wpAnyL_take (i := 5) (v := .int .i64 (N + 1)) rfl (by kernel_rfl) (by kernel_rfl) (by kernel_rfl) (by kernel_rfl) (fun _ _ _ h => h) (Or.inl ⟨by rfl, fun w h => by have c := HLD1.out w h; go_simp⟩) hS ?_
  try simp only [Act.put, List.getElem_toArray, List.getElem_cons_zero, List.getElem_cons_succ, List.setIfInBounds_toArray, List.set_cons_zero, List.set_cons_succ]
  refine wpAnyL_take (i := 6) (v := .agg #[.int .i64 x, .int .i64 (N + 1)]) rfl (by kernel_rfl) (by kernel_rfl) (by kernel_rfl) (by kernel_rfl) (fun _ _ _ h => h) (Or.inl ⟨by rfl, fun w _ => by go_simp⟩) hS ?_
  try simp only [Act.put, List.getElem_toArray, List.getElem_cons_zero, List.getElem_cons_succ, List.setIfInBounds_toArray, List.set_cons_zero, List.set_cons_succ]
  refine wpAnyL_take (i := 8) (v := .pointer (some ⟨r, 0, none⟩)) rfl (by kernel_rfl) (by kernel_rfl) (by kernel_rfl) (by kernel_rfl) (fun _ _ _ h => h) (Or.inl ⟨by rfl, fun w _ => by rfl⟩) hS ?_
  try simp only [Act.put, List.getElem_toArray, List.getElem_cons_zero, List.getElem_cons_succ, List.setIfInBounds_toArray, List.set_cons_zero, List.set_cons_succ]
  refine wpAnyL_take (i := 9) (v := .pointer (some ⟨r, 0, none⟩)) rfl (by kernel_rfl) (by kernel_rfl) (by kernel_rfl) (by kernel_rfl) (fun _ _ _ h => h) (Or.inl ⟨by rfl, fun w _ => by go_simp⟩) hS ?_
  try simp only [Act.put, List.getElem_toArray, List.getElem_cons_zero, List.getElem_cons_succ, List.setIfInBounds_toArray, List.set_cons_zero, List.set_cons_succ]
  refine wpAnyL_take (i := 10) (v := .pointer (some ⟨r, 0, none⟩)) rfl (by kernel_rfl) (by kernel_rfl) (by kernel_rfl) (by kernel_rfl) (fun _ _ _ h => h) (Or.inl ⟨by rfl, fun w _ => by go_simp⟩) hS ?_
  try simp only [Act.put, List.getElem_toArray, List.getElem_cons_zero, List.getElem_cons_succ, List.setIfInBounds_toArray, List.set_cons_zero, List.set_cons_succ]
  refine wpAnyL_take (i := 11) (v := .slice oa M cap) rfl (by kernel_rfl) (by kernel_rfl) (by kernel_rfl) (by kernel_rfl) (fun _ _ _ h => h) (Or.inl ⟨by rfl, fun w h => by have c := HLD.out w h; go_simp⟩) hS ?_
  try simp only [Act.put, List.getElem_toArray, List.getElem_cons_zero, List.getElem_cons_succ, List.setIfInBounds_toArray, List.set_cons_zero, List.set_cons_succ]
  have own1 : On.Own W.drew (r + 1) (.slice oa M cap) L := own0
  clear own0 R1 O2
  generalize W.drew = W0 at hS own1 ⊢
  refine wpAnyL_ready (rs := [7]) (by kernel_rfl) (by simp) ?_
  refine AllReadyL.cons rfl (fun K hK => ?_) AllReadyL.nil
  have ab : Below W0.heap.size W0 (W0.alloc (.cells #[.int .i64 x, .int .i64 (N + 1)] 81)) := (Below.refl _ _).alloc (Nat.le_refl _) _
  have ownX : On.Own (W0.alloc (.cells #[.int .i64 x, .int .i64 (N + 1)] 81)) (r + 1) (.slice (some ⟨W0.heap.size, 0, none⟩) 1 1) [⟨x, N + 1⟩] := ⟨rfl, Or.inr ⟨W0.heap.size, 1, #[.int .i64 x, .int .i64 (N + 1)], rfl, hS.1.lt, heap_alloc_last _ _, Nat.le_refl _, by unfold maxLen; omega, rfl, rfl⟩⟩
  have own2 := own1.keep ab
  have hS2 : Row (W0.alloc (.cells #[.int .i64 x, .int .i64 (N + 1)] 81)) r #[.slice oa M cap, .int .i64 (N + 1)] 69 ∧ Off (· = r) w (W0.alloc (.cells #[.int .i64 x, .int .i64 (N + 1)] 81)) := ⟨hS.1.alloc _, hS.2.trans (Off.of_below (F := fun _ => False) ab) (fun _ q => q.elim)⟩
  have hrW : r + 1 ≤ W0.heap.size := hS.1.lt
  have hab := ab.size
  obtain ⟨X, HX⟩ : ∃ X, Hid (W0.heap.size = X) := ⟨_, rfl⟩
  have HWX : Hid (w.heap.size ≤ X) := by show _ ≤ _; rw [← HX.out]; exact hS.2.size
  go_simp
  refine hK.out _ _ (fun _ => hS2) ?_
  try simp only [Act.put, List.getElem_toArray, List.getElem_cons_zero, List.getElem_cons_succ, List.setIfInBounds_toArray, List.set_cons_zero, List.set_cons_succ]
  rw [HX.out] at ownX hab hrW ⊢
  clear hS ab own1
  generalize W0.alloc (.cells #[.int .i64 x, .int .i64 (N + 1)] 81) = W1 at ownX hS2 hab own2 ⊢
  have hS := hS2
  clear hS2
  have HR : Hid (∀ ty, ∃ v' w', (Builtin.append_ #[67, 67] ty #[.slice (some ⟨X, 0, none⟩) 1 1, .slice oa M cap]).run Try.prog W1 = .ok v' w' ∧ (On.Own w' (r + 1) v' (⟨x, N + 1⟩ :: L) ∧ W1.grownBy w' (some X))) := fun ty => by
    obtain ⟨i, hi, hz, hs', hby⟩ := On.info_parts On.info81
    rcases On.Own.olds own2 with ⟨q, hL⟩ | ⟨a, cp, q, hc⟩
    · cases q
      have hr := run_append_owned_none (P := Try.prog) (w := W1) (r + 1) 67 ty 81 i 2 Try.underlying67 hi _ 1 _ ownX
      exact ⟨_, _, hr, by rw [hL]; exact ownX, ⟨rfl, rfl, rfl, Nat.le_refl _, fun _ _ _ => rfl⟩⟩
    · cases q
      obtain ⟨v', w', h1, h2, h3, h4, h5⟩ := run_append_own_at (P := Try.prog) W1 (r + 1) 67 ty 81 i _ 2 16 Try.underlying67 hi hz hs' hby rfl (by decide) _ 1 _ ownX a L.length cap (On.flat L) (On.flat_length L) hc (On.flat_one L) (by unfold maxLen; omega) (by omega) (by omega)
      refine ⟨v', w', h1, ?_, h3⟩
      unfold On.Own
      have e : (⟨x, N + 1⟩ :: L : List On.O).length = 1 + L.length := by rw [List.length_cons]; omega
      rw [e]
      exact h2
  refine wpAnyL_ready (rs := [12]) (by kernel_rfl) (by simp) ?_
  refine AllReadyL.cons rfl (fun K hK => step_of rfl (On.wp_copy (.tmp 23) (.tmp 27) 67 rfl _ _ rfl rfl (fun ty => HR.out ty) ?_)) AllReadyL.nil
  rintro v15 w15 ⟨own15, gr15⟩
  have o15 : Off (· = X) W1 w15 := Off.of_grown gr15 (fun k hk => by cases hk; rfl)
  have R15 : Row w15 r #[.slice oa M cap, .int .i64 (N + 1)] 69 := hS.1.off o15 (by show ¬ r = X; omega)
  have O15 : Off (· = r) w w15 := hS.2.trans o15 (fun j q => Or.inr (by have := HWX.out; omega))
  obtain ⟨oa15, cap15, hv15⟩ := own15.form
  have hlen : (⟨x, N + 1⟩ :: L : List On.O).length = M + 1 := by rw [List.length_cons, HM.out]
  rw [hlen] at hv15
  subst hv15
  have hS15 : Row w15 r #[.slice oa M cap, .int .i64 (N + 1)] 69 ∧ Off (· = r) w w15 := ⟨R15, O15⟩
  refine hK.out _ _ (fun _ => hS15) ?_
  try simp only [Act.put, List.getElem_toArray, List.getElem_cons_zero, List.getElem_cons_succ, List.setIfInBounds_toArray, List.set_cons_zero, List.set_cons_succ]
  clear hS HR ownX own2 gr15 o15 R15 O15
  have hS := hS15
  clear hS15
  refine wpAnyL_ready (rs := [13]) (by kernel_rfl) (by simp) ?_
  refine AllReadyL.cons rfl (fun K hK => ?_) AllReadyL.nil
  go_simp
  refine hK.out _ _ (fun _ => hS) ?_
  try simp only [Act.put, List.getElem_toArray, List.getElem_cons_zero, List.getElem_cons_succ, List.setIfInBounds_toArray, List.set_cons_zero, List.set_cons_succ]
  refine wpAnyL_ready (rs := [14]) (by kernel_rfl) (by simp) ?_
  refine AllReadyL.cons rfl (fun K hK => ?_) AllReadyL.nil
  go_simp
  refine hK.out _ _ (fun _ => hS) ?_
  try simp only [Act.put, List.getElem_toArray, List.getElem_cons_zero, List.getElem_cons_succ, List.setIfInBounds_toArray, List.set_cons_zero, List.set_cons_succ]
  refine wpAnyL_ready (rs := [15]) (by kernel_rfl) (by simp) ?_
  refine AllReadyL.cons rfl (fun K hK => ?_) AllReadyL.nil
  have c9 := HLD.out _ hS
  have f9 := row_frozen hS.1 0
  have RR : Row (w15.setCell ⟨r, 0, none⟩ (.slice oa15 (M + 1) cap15)) r #[.slice oa15 (M + 1) cap15, .int .i64 (N + 1)] 69 := row_set hS.1 0 _
  have own9 : On.Own (w15.setCell ⟨r, 0, none⟩ (.slice oa15 (M + 1) cap15)) (r + 1) (.slice oa15 (M + 1) cap15) (⟨x, N + 1⟩ :: L) := own15.other r 0 _ (by omega)
  have O9 := hS.2.trans (Off.of_setCell (F := (· = r)) w15 ⟨r, 0, none⟩ (.slice oa15 (M + 1) cap15) rfl) (fun j q => Or.inl q)
  go_simp
  refine hK.out _ _ (fun q => absurd rfl q) ?_
  try simp only [Act.put, List.getElem_toArray, List.getElem_cons_zero, List.getElem_cons_succ, List.setIfInBounds_toArray, List.set_cons_zero, List.set_cons_succ]
  generalize w15.setCell ⟨r, 0, none⟩ (.slice oa15 (M + 1) cap15) = w16 at RR own9 O9 ⊢
  refine wpAnyL_done (by kernel_rfl) ?_ _
  have c16 : RtAt w16 r (.slice oa15 (M + 1) cap15) (N + 1) (⟨x, N + 1⟩ :: L) := { row := RR, own := own9, small := by rw [hlen]; omega }
  obtain ⟨b, HB⟩ : ∃ b, Hid (rhasV (⟨x, N + 1⟩ :: L) x = b) := ⟨_, rfl⟩
  rw [HB.out] at HH
  clear hS c9 f9 own15 RR own9 HLD HLD1 hlen
  go_wp2_with (go_at_call 31; refine (HH.out _ _ c16).mono ?_; clear HH; rintro e w17 ⟨he, b17⟩; obtain rfl := he)
  try go_ret
  rw [HPP.out]
  exact ⟨by rw [HB.out]; rfl, _, c16.below b17, O9.trans (Off.of_below (F := fun _ => False) b17) (fun _ q => q.elim)⟩
end Go.Proofs.Ytmnbfcmamhinbaa.Tu
