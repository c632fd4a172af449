/-
  Proved here: the line as it is told; calls of a turn that isn't there; the statements' fixed run.
-/
import Derived.Test.YtmnbfcmamhinbaaTrn
import Derived.Laws.Cover3
namespace Go.Proofs.Ytmnbfcmamhinbaa.Tu
open Go.ChangeShapes Go.WideShapes Go.ChangeAt Go.RowKit
open Go.Deep
set_option linter.unusedVariables false
set_option linter.unusedSimpArgs false

/-- What Clone, and Line, leave. -/
def Told (w : World) (xs : List Int) (e : Ending) (w' : World) : Prop := ∃ v', e = .returned v' ∧ Own w' w.heap.size v' xs ∧ Below w.heap.size w w'
theorem eql_nil (a : Option Addr) (l c : Nat) (w : World) : (binOp .eql 65 (.slice a l c) (.slice none 0 0)).run Try.prog w = .ok (.bool a.isNone) w := by
  simp only [binOp]
  simp [run_equal_slice_nil w 65 3 a l c Try.underlying65]
theorem clone_any {w : World} {base : Nat} {v : Value} {xs : List Int} (c : Own w base v xs) (hs : xs.length ≤ 1000) : Calls Try.prog 40 #[v] w fun e w' => Told w xs e w' := by
  have heq := eql_nil
  rcases c.2 with ⟨rfl, h2⟩ | ⟨g, cap, cur, rfl, hb, hc, hle, hm, hsz, htk⟩
  · obtain rfl : xs = [] := List.eq_nil_of_length_eq_zero h2
    go_enter Try.func40, Try.ntmps40
    go_wp2
    go_ret
    exact ⟨_, rfl, ⟨rfl, Or.inl ⟨rfl, rfl⟩⟩, Below.refl _ _⟩
  · have b0 : Below w.heap.size w (w.alloc (.cells #[] 3)) := (Below.refl _ _).alloc (Nat.le_refl _) _
    have own0 : (w.alloc (.cells #[] 3)).ownsRow w.heap.size 3 1 (.slice (some ⟨w.heap.size, 0, none⟩) 0 0) 0 [] := World.ownsRow_made w #[] 0 (Nat.le_refl _) (Nat.zero_le _) rfl
    obtain ⟨N, HN⟩ : ∃ N, Hid (xs.length = N) := ⟨_, rfl⟩
    have HR : Hid (∀ ty, ∃ v' w', (Builtin.append_ #[65, 65] ty #[.slice (some ⟨w.heap.size, 0, none⟩) 0 0, .slice (some ⟨g, 0, none⟩) N cap]).run Try.prog (w.alloc (.cells #[] 3)) = .ok v' w' ∧ (Own w' w.heap.size v' xs ∧ Below w.heap.size w w')) := fun ty => by
      obtain ⟨i, hi, hz, hsz', hby⟩ := info_parts info3
      obtain ⟨v', w', hr, h2, h3, h4, h5⟩ := run_append_own_at (P := Try.prog) (w.alloc (.cells #[] 3)) w.heap.size 65 ty 3 i _ 1 8 Try.underlying65 hi hz hsz' hby rfl (by decide) _ 0 [] own0 ⟨g, 0, none⟩ N cap (is xs) (by rw [is_length, HN.out]; omega) (fun j u hj => by
        rw [Addr.add_mid, Nat.zero_add]
        have hjl : j < xs.length := by have := (List.getElem?_eq_some_iff.1 hj).1; rw [is_length] at this; exact this
        have hx := List.getElem?_eq_getElem hjl
        have hu : u = .int .i64 xs[j] := by
          have e : (is xs)[j]? = some (.int .i64 xs[j]) := by simp [is, hjl]
          rw [hj] at e; cases e; rfl
        rw [hu]
        exact cell_keep (c.cell j _ hx).1 b0) (fun u hu => by obtain ⟨x, _, rfl⟩ := List.mem_map.1 hu; rfl) (by unfold maxLen; rw [← HN.out]; omega) (by rw [← HN.out]; omega) b0.size
      refine ⟨v', w', hr, ?_, b0.grown h3 b0.size (fun k hk => by simp [Value.ownBlock] at hk; omega)⟩
      rw [Nat.zero_add, List.nil_append] at h2
      unfold Own
      rw [HN.out]; exact h2
    rw [HN.out]
    obtain ⟨PP, HPP⟩ : ∃ PP : Ending → World → Prop, Hid (PP = fun e w' => Told w xs e w') := ⟨_, rfl⟩
    rw [← HPP.out]
    clear hsz htk hc hm hle hb own0 c
    go_enter Try.func40, Try.ntmps40
    go_wp2_with (at_builtin; refine wpList_copy rfl (.tmp 5) (.tmp 6) 65 rfl _ _ rfl rfl (fun ty => HR.out ty) ?_; clear HR; rintro v2 w2 ⟨own2, b2⟩)
    try go_ret
    rw [HPP.out]
    exact ⟨_, rfl, own2, b2⟩
theorem line_any {w : World} {t : Nat} {v : Value} {xs : List Int} (c : TAt w t v xs) : Calls Try.prog 32 #[.pointer (some ⟨t, 0, none⟩)] w fun e w' => Told w xs e w' := by
  have c0 := row_at c.row 0 v rfl
  have hc := clone_any c.own c.small
  obtain ⟨PP, HPP⟩ : ∃ PP : Ending → World → Prop, Hid (PP = fun e w' => Told w xs e w') := ⟨_, rfl⟩
  have HQ : Hid (∀ e w', Told w xs e w' → ∃ v, e = .returned v ∧ PP (.returned v) w') := fun e w' q => by
    have q' := q
    obtain ⟨v, rfl, _⟩ := q'
    exact ⟨v, rfl, by rw [HPP.out]; exact q⟩
  rw [← HPP.out]
  clear HPP c
  go_enter Try.func32, Try.ntmps32
  go_wp2_with (go_at_call 40; refine hc.mono ?_; clear hc; intro e w2 hq; obtain ⟨v2, he, hq2⟩ := HQ.out _ _ hq; obtain rfl := he; clear hq)
  try go_ret
  exact hq2
theorem ask_nil (w : World) (x : Int) : Calls Try.prog 26 #[.pointer none, .int .i64 x] w fun e w' => e = .returned (.bool false) ∧ w' = w := by
  go_enter Try.func26, Try.ntmps26
  go_wp2
  go_ret
  exact ⟨rfl, rfl⟩
theorem has_nil (w : World) (x : Int) : Calls Try.prog 30 #[.pointer none, .int .i64 x] w fun e w' => e = .returned (.bool false) ∧ w' = w := by
  go_enter Try.func30, Try.ntmps30
  go_wp2
  go_ret
  exact ⟨rfl, rfl⟩
theorem leave_nil (w : World) (x : Int) : Calls Try.prog 28 #[.pointer none, .int .i64 x] w fun e w' => e = .returned (.bool false) ∧ w' = w := by
  go_enter Try.func28, Try.ntmps28
  go_wp2
  go_ret
  exact ⟨rfl, rfl⟩
theorem line_nil (w : World) : Calls Try.prog 32 #[.pointer none] w fun e w' => e = .returned (.slice none 0 0) ∧ w' = w := by
  go_enter Try.func32, Try.ntmps32
  go_wp2
  go_ret
  exact ⟨rfl, rfl⟩
theorem awake_any (w : World) : Calls Try.prog 34 #[] w fun e w' => e = .returned (.bool true) ∧ Below w.heap.size w w' := by
  have hnew := new_any w
  have H1 : Hid (∀ w1 t v, TAt w1 t v [] → Calls Try.prog 26 #[.pointer (some ⟨t, 0, none⟩), .int .i64 4] w1 fun e w' => e = .returned (.bool true) ∧ ∃ v', TAt w' t v' [4] ∧ Off (fun k => t ≤ k) w1 w') := fun w1 t v c => (ask_any c 4 (by simp)).mono fun e w' h => ⟨h.1, h.2.choose, h.2.choose_spec.1, h.2.choose_spec.2.mono fun j q => Or.inl (c.foot_le q)⟩
  have H2 : Hid (∀ w1 t v, TAt w1 t v [4] → Calls Try.prog 26 #[.pointer (some ⟨t, 0, none⟩), .int .i64 5] w1 fun e w' => e = .returned (.bool false) ∧ ∃ v', TAt w' t v' [4, 5] ∧ Off (fun k => t ≤ k) w1 w') := fun w1 t v c => (ask_any c 5 (by simp)).mono fun e w' h => ⟨h.1, h.2.choose, h.2.choose_spec.1, h.2.choose_spec.2.mono fun j q => Or.inl (c.foot_le q)⟩
  have H3 : Hid (∀ w1 t v, TAt w1 t v [4, 5] → Calls Try.prog 28 #[.pointer (some ⟨t, 0, none⟩), .int .i64 4] w1 fun e w' => e = .returned (.bool true) ∧ ∃ v', TAt w' t v' [5] ∧ Off (fun k => t ≤ k) w1 w') := fun w1 t v c => (leave_any c 4).mono fun e w' h => ⟨h.1, h.2.choose, h.2.choose_spec.1, h.2.choose_spec.2.1.mono fun j q => Or.inl (c.foot_le q)⟩
  have H4 : Hid (∀ w1 t v, TAt w1 t v [5] → Calls Try.prog 30 #[.pointer (some ⟨t, 0, none⟩), .int .i64 5] w1 fun e w' => e = .returned (.bool true) ∧ w' = w1) := fun w1 t v c => has_any c 5
  go_enter Try.func34, Try.ntmps34
  go_wp2_with (first
    | (go_at_call 24; refine hnew.mono ?_; clear hnew; rintro e w1 ⟨t, he, ht, c1, b1⟩; obtain rfl := he; have HT : Hid (w.heap.size ≤ t) := ht; clear ht)
    | (have hh := H1; clear hh; go_at_call 26; refine (H1.out _ _ _ c1).mono ?_; clear H1; rintro e w2 ⟨he, v2, c2, o2⟩; obtain rfl := he)
    | (go_at_call 26; refine (H2.out _ _ _ c2).mono ?_; clear H2; rintro e w3 ⟨he, v3, c3, o3⟩; obtain rfl := he)
    | (go_at_call 28; refine (H3.out _ _ _ c3).mono ?_; clear H3; rintro e w4 ⟨he, v4, c4, o4⟩; obtain rfl := he)
    | (go_at_call 30; refine (H4.out _ _ _ c4).mono ?_; clear H4; rintro e wb ⟨he, hww⟩; rw [hww]; clear hww wb; obtain rfl := he))
  go_ret
  have hF : ∀ k, t ≤ k → w.heap.size ≤ k := fun k hk => Nat.le_trans HT.out hk
  have B2 := b1.trans (o2.below b1.size hF)
  have B3 := B2.trans (o3.below B2.size hF)
  exact ⟨rfl, B3.trans (o4.below B3.size hF)⟩
end Go.Proofs.Ytmnbfcmamhinbaa.Tu
