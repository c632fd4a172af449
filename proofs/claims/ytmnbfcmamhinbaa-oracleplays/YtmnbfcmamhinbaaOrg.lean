/-
  Proved here: what Begin of the document's oracle answers, and makes of it.
-/
import Derived.Test.YtmnbfcmamhinbaaOrr
namespace Go.Proofs.Ytmnbfcmamhinbaa
open Go.ChangeShapes Go.WideShapes Go.ChangeAt Go.RowKit
open Go.Deep Go.Maps
set_option linter.unusedVariables false
set_option linter.unusedSimpArgs false


theorem step_of {o : Oper} {ops : Array Oper} {a : Act} {w : World} {K : Act → World → Prop} {Q : Exit → Act → World → Prop} {E : Prop} (hgd : o.guard = none) (h : Oper.wp Try.prog o a w K Q) : if Region.wanted o (yielded ops a.tmps) = true then Oper.wp Try.prog o a w K Q else E := by
  rw [if_pos (by simp [Region.wanted, hgd])]; exact h
/-- What Begin of the document's oracle leaves. -/
def RBegan (w : World) (r : Nat) (last max : Int) (T : List Tx.O) (e : Ending) (w' : World) : Prop :=
  e = .returned (.tuple #[.int .u64 ((T.length : Int) + 1), .int .u32 last, .int .i64 0]) ∧ ∃ v', RfAt w' r v' last max (T ++ [⟨(T.length : Int) + 1, last, true⟩]) ∧ Off (fun k => r ≤ k) w w'
theorem RfAt.snoc {w : World} {r : Nat} {v : Value} {last max : Int} {T : List Tx.O} (r2 : Row w r #[.int .u32 last, .int .u32 max, v] 30) (o2 : Tx.Own w (r + 1) v (T ++ [⟨(T.length : Int) + 1, last, true⟩])) (hs : T.length < 100) (hn : ∀ (i : Nat) (o : Tx.O), T[i]? = some o → o.n = (i : Int) + 1) : RfAt w r v last max (T ++ [⟨(T.length : Int) + 1, last, true⟩]) :=
  { row := r2, own := o2, small := by simp; omega, nums := fun i o h => by
      by_cases q : i < T.length
      · rw [List.getElem?_append_left q] at h; exact hn i o h
      · rw [List.getElem?_append_right (by omega)] at h
        have : i - T.length = 0 := by
          have := (List.getElem?_eq_some_iff.1 h).1
          simp at this; omega
        rw [this] at h
        simp at h
        rw [← h]
        show (T.length : Int) + 1 = _
        omega }
set_option maxHeartbeats 4000000 in
set_option maxRecDepth 20000 in
theorem rbegin_some {w : World} {r : Nat} {v : Value} {last max : Int} {T : List Tx.O} (c : RfAt w r v last max T) (h8 : (lv T).length < 8) (hs : T.length < 100) :
    Calls Try.prog 15 #[.pointer (some ⟨r, 0, none⟩)] w fun e w' => RBegan w r last max T e w' := by
  have hlv := rlive_any c
  have h8' : ¬ ((lv T).length : Int) ≥ 8 := by omega
  obtain ⟨oa, cap, hv⟩ := c.own.form
  subst hv
  obtain ⟨N, HN⟩ : ∃ N, Hid (T.length = N) := ⟨_, rfl⟩
  have hN : N < 100 := by rw [← HN.out]; exact hs
  have hwN : IntKind.i64.wrap ((N : Int) + 1) = (N : Int) + 1 := by rw [IntKind.wrap_i64]; omega
  have hcN : IntKind.u64.wrap ((N : Int) + 1) = (N : Int) + 1 := by rw [IntKind.wrap_u64]; omega
  have HNU : Hid _ := c.nums
  rw [HN.out] at c
  have HLD : Hid (∀ w', Row w' r #[.int .u32 last, .int .u32 max, .slice oa N cap] 30 ∧ Off (fun k => r ≤ k) w w' → w'.cell? ⟨r, 2, none⟩ = some (.slice oa N cap)) := fun w' h => row_at h.1 2 _ rfl
  have HLD0 : Hid (∀ w', Row w' r #[.int .u32 last, .int .u32 max, .slice oa N cap] 30 ∧ Off (fun k => r ≤ k) w w' → w'.cell? ⟨r, 0, none⟩ = some (.int .u32 last)) := fun w' h => row_at h.1 0 _ rfl
  obtain ⟨PP, HPP⟩ : ∃ PP : Ending → World → Prop, Hid (PP = fun e w' => RBegan w r last max T e w') := ⟨_, rfl⟩
  rw [← HPP.out]
  go_enter Try.func15, Try.ntmps15
  go_upto_region 3 with (go_at_call 35; refine hlv.mono ?_; clear hlv; rintro e w1 ⟨he, b1⟩; obtain rfl := he)
  have C1 := c.below b1
  have O1 : Off (fun k => r ≤ k) w w1 := Off.of_below b1
  clear c b1
  refine wp_region_last (S := fun w' => Row w' r #[.int .u32 last, .int .u32 max, .slice oa N cap] 30 ∧ Off (fun k => r ≤ k) w w') 21 (by kernel_rfl) ⟨C1.row, O1.drew⟩ fun hS => ?_
  refine wpAnyL_take (i := 0) (v := .pointer (some ⟨r, 0, none⟩)) rfl (by kernel_rfl) (by kernel_rfl) (by kernel_rfl) (by kernel_rfl) (fun _ _ _ h => h) (Or.inl ⟨by rfl, fun w _ => by rfl⟩) hS ?_
  try simp only [Act.put, List.getElem_toArray, List.getElem_cons_zero, List.getElem_cons_succ, List.setIfInBounds_toArray, List.set_cons_zero, List.set_cons_succ]
  refine wpAnyL_take (i := 1) (v := .pointer (some ⟨r, 0, none⟩)) rfl (by kernel_rfl) (by kernel_rfl) (by kernel_rfl) (by kernel_rfl) (fun _ _ _ h => h) (Or.inl ⟨by rfl, fun w _ => by rfl⟩) hS ?_
  try simp only [Act.put, List.getElem_toArray, List.getElem_cons_zero, List.getElem_cons_succ, List.setIfInBounds_toArray, List.set_cons_zero, List.set_cons_succ]
  refine wpAnyL_take (i := 2) (v := .pointer (some ⟨r, 0, none⟩)) rfl (by kernel_rfl) (by kernel_rfl) (by kernel_rfl) (by kernel_rfl) (fun _ _ _ h => h) (Or.inl ⟨by rfl, fun w _ => by go_simp⟩) hS ?_
  try simp only [Act.put, List.getElem_toArray, List.getElem_cons_zero, List.getElem_cons_succ, List.setIfInBounds_toArray, List.set_cons_zero, List.set_cons_succ]
  refine wpAnyL_take (i := 3) (v := .pointer (some ⟨r, 2, none⟩)) rfl (by kernel_rfl) (by kernel_rfl) (by kernel_rfl) (by kernel_rfl) (fun _ _ _ h => h) (Or.inl ⟨by rfl, fun w _ => by go_simp⟩) hS ?_
  try simp only [Act.put, List.getElem_toArray, List.getElem_cons_zero, List.getElem_cons_succ, List.setIfInBounds_toArray, List.set_cons_zero, List.set_cons_succ]
  refine wpAnyL_take (i := 4) (v := .slice oa N cap) rfl (by kernel_rfl) (by kernel_rfl) (by kernel_rfl) (by kernel_rfl) (fun _ _ _ h => h) (Or.inl ⟨by rfl, fun w h => by have c := HLD.out w h; go_simp⟩) hS ?_
  try simp only [Act.put, List.getElem_toArray, List.getElem_cons_zero, List.getElem_cons_succ, List.setIfInBounds_toArray, List.set_cons_zero, List.set_cons_succ]
  refine wpAnyL_take (i := 5) (v := .pointer (some ⟨r, 0, none⟩)) rfl (by kernel_rfl) (by kernel_rfl) (by kernel_rfl) (by kernel_rfl) (fun _ _ _ h => h) (Or.inl ⟨by rfl, fun w _ => by rfl⟩) hS ?_
  try simp only [Act.put, List.getElem_toArray, List.getElem_cons_zero, List.getElem_cons_succ, List.setIfInBounds_toArray, List.set_cons_zero, List.set_cons_succ]
  refine wpAnyL_take (i := 6) (v := .pointer (some ⟨r, 0, none⟩)) rfl (by kernel_rfl) (by kernel_rfl) (by kernel_rfl) (by kernel_rfl) (fun _ _ _ h => h) (Or.inl ⟨by rfl, fun w _ => by go_simp⟩) hS ?_
  try simp only [Act.put, List.getElem_toArray, List.getElem_cons_zero, List.getElem_cons_succ, List.setIfInBounds_toArray, List.set_cons_zero, List.set_cons_succ]
  refine wpAnyL_take (i := 7) (v := .pointer (some ⟨r, 2, none⟩)) rfl (by kernel_rfl) (by kernel_rfl) (by kernel_rfl) (by kernel_rfl) (fun _ _ _ h => h) (Or.inl ⟨by rfl, fun w _ => by go_simp⟩) hS ?_
  try simp only [Act.put, List.getElem_toArray, List.getElem_cons_zero, List.getElem_cons_succ, List.setIfInBounds_toArray, List.set_cons_zero, List.set_cons_succ]
  refine wpAnyL_take (i := 8) (v := .slice oa N cap) rfl (by kernel_rfl) (by kernel_rfl) (by kernel_rfl) (by kernel_rfl) (fun _ _ _ h => h) (Or.inl ⟨by rfl, fun w h => by have c := HLD.out w h; go_simp⟩) hS ?_
  try simp only [Act.put, List.getElem_toArray, List.getElem_cons_zero, List.getElem_cons_succ, List.setIfInBounds_toArray, List.set_cons_zero, List.set_cons_succ]
  refine wpAnyL_take (i := 9) (v := .int .i64 N) rfl (by kernel_rfl) (by kernel_rfl) (by kernel_rfl) (by kernel_rfl) (fun _ _ _ h => h) (Or.inl ⟨by rfl, fun w _ => by go_simp⟩) hS ?_
  try simp only [Act.put, List.getElem_toArray, List.getElem_cons_zero, List.getElem_cons_succ, List.setIfInBounds_toArray, List.set_cons_zero, List.set_cons_succ]
  refine wpAnyL_take (i := 10) (v := .int .i64 ((N : Int) + 1)) rfl (by kernel_rfl) (by kernel_rfl) (by kernel_rfl) (by kernel_rfl) (fun _ _ _ h => h) (Or.inl ⟨by rfl, fun w _ => by go_simp⟩) hS ?_
  try simp only [Act.put, List.getElem_toArray, List.getElem_cons_zero, List.getElem_cons_succ, List.setIfInBounds_toArray, List.set_cons_zero, List.set_cons_succ]
  refine wpAnyL_take (i := 11) (v := .int .u64 ((N : Int) + 1)) rfl (by kernel_rfl) (by kernel_rfl) (by kernel_rfl) (by kernel_rfl) (fun _ _ _ h => h) (Or.inl ⟨by rfl, fun w _ => by go_simp⟩) hS ?_
  try simp only [Act.put, List.getElem_toArray, List.getElem_cons_zero, List.getElem_cons_succ, List.setIfInBounds_toArray, List.set_cons_zero, List.set_cons_succ]
  refine wpAnyL_take (i := 12) (v := .pointer (some ⟨r, 0, none⟩)) rfl (by kernel_rfl) (by kernel_rfl) (by kernel_rfl) (by kernel_rfl) (fun _ _ _ h => h) (Or.inl ⟨by rfl, fun w _ => by rfl⟩) hS ?_
  try simp only [Act.put, List.getElem_toArray, List.getElem_cons_zero, List.getElem_cons_succ, List.setIfInBounds_toArray, List.set_cons_zero, List.set_cons_succ]
  refine wpAnyL_take (i := 13) (v := .pointer (some ⟨r, 0, none⟩)) rfl (by kernel_rfl) (by kernel_rfl) (by kernel_rfl) (by kernel_rfl) (fun _ _ _ h => h) (Or.inl ⟨by rfl, fun w _ => by go_simp⟩) hS ?_
  try simp only [Act.put, List.getElem_toArray, List.getElem_cons_zero, List.getElem_cons_succ, List.setIfInBounds_toArray, List.set_cons_zero, List.set_cons_succ]
  refine wpAnyL_take (i := 14) (v := .pointer (some ⟨r, 0, none⟩)) rfl (by kernel_rfl) (by kernel_rfl) (by kernel_rfl) (by kernel_rfl) (fun _ _ _ h => h) (Or.inl ⟨by rfl, fun w _ => by go_simp⟩) hS ?_
  try simp only [Act.put, List.getElem_toArray, List.getElem_cons_zero, List.getElem_cons_succ, List.setIfInBounds_toArray, List.set_cons_zero, List.set_cons_succ]
  refine wpAnyL_take (i := 15) (v := .int .u32 last) rfl (by kernel_rfl) (by kernel_rfl) (by kernel_rfl) (by kernel_rfl) (fun _ _ _ h => h) (Or.inl ⟨by rfl, fun w h => by have c := HLD0.out w h; go_simp⟩) hS ?_
  try simp only [Act.put, List.getElem_toArray, List.getElem_cons_zero, List.getElem_cons_succ, List.setIfInBounds_toArray, List.set_cons_zero, List.set_cons_succ]
  refine wpAnyL_take (i := 16) (v := .agg #[.int .u64 ((N : Int) + 1), .int .u32 last, .bool true]) rfl (by kernel_rfl) (by kernel_rfl) (by kernel_rfl) (by kernel_rfl) (fun _ _ _ h => h) (Or.inl ⟨by rfl, fun w _ => by go_simp⟩) hS ?_
  try simp only [Act.put, List.getElem_toArray, List.getElem_cons_zero, List.getElem_cons_succ, List.setIfInBounds_toArray, List.set_cons_zero, List.set_cons_succ]
  have own0 : Tx.Own w1.drew (r + 1) (.slice oa N cap) T := C1.own
  clear C1 O1
  generalize w1.drew = W0 at hS own0 ⊢
  refine wpAnyL_ready (rs := [17]) (by kernel_rfl) (by simp) ?_
  refine AllReadyL.cons rfl (fun K hK => ?_) AllReadyL.nil
  have rX : Row (W0.alloc (.cells #[.int .u64 ((N : Int) + 1), .int .u32 last, .bool true] 41)) W0.heap.size #[.int .u64 ((N : Int) + 1), .int .u32 last, .bool true] 41 := Row.new _ _ _
  have ab : Below W0.heap.size W0 (W0.alloc (.cells #[.int .u64 ((N : Int) + 1), .int .u32 last, .bool true] 41)) := (Below.refl _ _).alloc (Nat.le_refl _) _
  have own1 := own0.keep ab
  have hS2 : Row (W0.alloc (.cells #[.int .u64 ((N : Int) + 1), .int .u32 last, .bool true] 41)) r #[.int .u32 last, .int .u32 max, .slice oa N cap] 30 ∧ Off (fun k => r ≤ k) w (W0.alloc (.cells #[.int .u64 ((N : Int) + 1), .int .u32 last, .bool true] 41)) := ⟨hS.1.alloc _, hS.2.trans (Off.of_below (F := fun _ => False) ab) (fun _ q => q.elim)⟩
  have hrW : r + 1 ≤ W0.heap.size := hS.1.lt
  obtain ⟨X, HX⟩ : ∃ X, Hid (W0.heap.size = X) := ⟨_, rfl⟩
  have hab := ab.size
  go_simp
  refine hK.out _ _ (fun _ => hS2) ?_
  try simp only [Act.put, List.getElem_toArray, List.getElem_cons_zero, List.getElem_cons_succ, List.setIfInBounds_toArray, List.set_cons_zero, List.set_cons_succ]
  rw [HX.out] at rX hab hrW ⊢
  clear hS ab own0
  generalize W0.alloc (.cells #[.int .u64 ((N : Int) + 1), .int .u32 last, .bool true] 41) = W1 at rX hS2 hab own1 ⊢
  have hS := hS2
  clear hS2
  have HR : Hid (∀ ty, ∃ v' w', (Builtin.append_ #[28, 28] ty #[.slice oa N cap, .slice (some ⟨X, 0, none⟩) 1 1]).run Try.prog W1 = .ok v' w' ∧ (Tx.Own w' (r + 1) v' (T ++ [⟨(N : Int) + 1, last, true⟩]) ∧ W1.grownBy w' (Value.ownBlock (.slice oa N cap)))) := fun ty => Tx.Own.snocP own1 ty X ⟨(N : Int) + 1, last, true⟩ rX (by omega) (by rw [HN.out]; omega)
  refine wpAnyL_ready (rs := [18]) (by kernel_rfl) (by simp) ?_
  refine AllReadyL.cons rfl (fun K hK => step_of rfl (Tx.wp_copy (.tmp 12) (.tmp 25) 28 rfl _ _ rfl rfl (fun ty => HR.out ty) ?_)) AllReadyL.nil
  rintro v15 w15 ⟨own15, gr15⟩
  have o15 : Off (fun j => r < j) W1 w15 := Off.of_grown gr15 (fun k hk => (World.ownsRow.lt own1 k hk).1)
  have R15 : Row w15 r #[.int .u32 last, .int .u32 max, .slice oa N cap] 30 := hS.1.off o15 (Nat.lt_irrefl _)
  have O15 := hS.2.trans o15 (fun j q => Or.inl (Nat.le_of_lt q))
  obtain ⟨oa15, cap15, hv15⟩ := own15.form
  subst hv15
  have hlen : (T ++ [(⟨(N : Int) + 1, last, true⟩ : Tx.O)]).length = N + 1 := by rw [List.length_append, HN.out]; rfl
  rw [hlen] at own15
  rw [hlen]
  have hS15 : Row w15 r #[.int .u32 last, .int .u32 max, .slice oa N cap] 30 ∧ Off (fun k => r ≤ k) w w15 := ⟨R15, O15⟩
  refine hK.out _ _ (fun _ => hS15) ?_
  try simp only [Act.put, List.getElem_toArray, List.getElem_cons_zero, List.getElem_cons_succ, List.setIfInBounds_toArray, List.set_cons_zero, List.set_cons_succ]
  clear hS HR rX own1 gr15 o15 hlen
  have hS : Row w15 r #[.int .u32 last, .int .u32 max, .slice oa N cap] 30 ∧ Off (fun k => r ≤ k) w w15 := ⟨R15, O15⟩
  clear R15 O15 hS15
  refine wpAnyL_ready (rs := [19]) (by kernel_rfl) (by simp) ?_
  refine AllReadyL.cons rfl (fun K hK => ?_) AllReadyL.nil
  go_simp
  refine hK.out _ _ (fun _ => hS) ?_
  try simp only [Act.put, List.getElem_toArray, List.getElem_cons_zero, List.getElem_cons_succ, List.setIfInBounds_toArray, List.set_cons_zero, List.set_cons_succ]
  refine wpAnyL_ready (rs := [20]) (by kernel_rfl) (by simp) ?_
  refine AllReadyL.cons rfl (fun K hK => ?_) AllReadyL.nil
  go_simp
  refine hK.out _ _ (fun _ => hS) ?_
  try simp only [Act.put, List.getElem_toArray, List.getElem_cons_zero, List.getElem_cons_succ, List.setIfInBounds_toArray, List.set_cons_zero, List.set_cons_succ]
  refine wpAnyL_ready (rs := [21]) (by kernel_rfl) (by simp) ?_
  refine AllReadyL.cons rfl (fun K hK => ?_) AllReadyL.nil
  have c9 := HLD.out _ hS
  have f9 := row_frozen hS.1 2
  have RR : Row (w15.setCell ⟨r, 2, none⟩ (.slice oa15 (N + 1) cap15)) r #[.int .u32 last, .int .u32 max, .slice oa15 (N + 1) cap15] 30 := row_set hS.1 2 _
  have own9 : Tx.Own (w15.setCell ⟨r, 2, none⟩ (.slice oa15 (N + 1) cap15)) (r + 1) (.slice oa15 (N + 1) cap15) (T ++ [⟨(N : Int) + 1, last, true⟩]) := own15.other r 2 _ (by omega)
  have O9 := hS.2.trans (Off.of_setCell (F := (fun k => r ≤ k)) w15 ⟨r, 2, none⟩ (.slice oa15 (N + 1) cap15) (Nat.le_refl _)) (fun j q => Or.inl q)
  go_simp
  refine hK.out _ _ (fun q => absurd rfl q) ?_
  try simp only [Act.put, List.getElem_toArray, List.getElem_cons_zero, List.getElem_cons_succ, List.setIfInBounds_toArray, List.set_cons_zero, List.set_cons_succ]
  generalize w15.setCell ⟨r, 2, none⟩ (.slice oa15 (N + 1) cap15) = w16 at RR own9 O9 ⊢
  refine wpAnyL_done (by kernel_rfl) ?_ _
  clear hS c9 f9 own15
  have HF : Hid (RfAt w16 r (.slice oa15 (N + 1) cap15) last max (T ++ [⟨(T.length : Int) + 1, last, true⟩])) := RfAt.snoc RR (by rw [HN.out]; exact own9) hs HNU.out
  have HO : Hid _ := O9
  have d0 := row_at RR 0 _ rfl
  have d2 := row_at RR 2 (.slice oa15 (N + 1) cap15) rfl
  have hcN2 : IntKind.u64.wrap (((N + 1 : Nat) : Int)) = (N : Int) + 1 := by rw [IntKind.wrap_u64]; omega
  clear RR own9 O9 HLD HLD0
  go_wp2
  go_quiet (fail)
  go_wp2
  try go_ret3
  rw [HPP.out]
  exact ⟨by rw [HN.out]; rfl, _, HF.out.below (by exact ⟨rfl, rfl, rfl, Nat.le_refl _, fun _ _ => rfl⟩), ⟨HO.out.os, HO.out.tape, HO.out.output, HO.out.size, HO.out.block⟩⟩
theorem rbegin_none {w : World} {r : Nat} {v : Value} {last max : Int} {T : List Tx.O} (c : RfAt w r v last max T) (h8 : ¬ (lv T).length < 8) :
    Calls Try.prog 15 #[.pointer (some ⟨r, 0, none⟩)] w fun e w' => e = .returned (.tuple #[.int .u64 0, .int .u32 0, .int .i64 10]) ∧ Below w.heap.size w w' := by
  have hlv := rlive_any c
  have h8' : ((lv T).length : Int) ≥ 8 := by omega
  go_enter Try.func15, Try.ntmps15
  go_wp2_with (go_at_call 35; refine hlv.mono ?_; clear hlv; rintro e w1 ⟨he, b1⟩; obtain rfl := he)
  go_ret3
  exact ⟨rfl, b1⟩
end Go.Proofs.Ytmnbfcmamhinbaa
