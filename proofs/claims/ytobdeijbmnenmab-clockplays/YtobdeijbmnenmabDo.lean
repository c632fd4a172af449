/-
  Proved here: what a call that the statements make of a clock does.
-/
import Derived.Test.YtobdeijbmnenmabVct
namespace Go.Proofs.Ytobdeijbmnenmab
open Go.ChangeShapes Go.WideShapes Go.ChangeAt Go.RowKit
set_option linter.unusedVariables false
set_option linter.unusedSimpArgs false

theorem do_0 (v : Value) (i : Int) (b : Bool) (w : World) (T : World → Prop) (hh : ∀ wa, Below w.heap.size w wa → Calls Try.prog 17 #[v, .int .i64 i] wa fun e w' => e = .returned (.tuple #[]) ∧ T w') :
    Calls Try.prog 11 #[v, .agg #[.int .i64 0, .int .i64 i, .bool b]] w fun e w' => e = .returned (.tuple #[.int .i64 0, .bool false]) ∧ T w' := by
  have r0 : Row (w.alloc (.cells #[.int .i64 0, .int .i64 i, .bool b] 29)) w.heap.size #[.int .i64 0, .int .i64 i, .bool b] 29 := Row.new _ _ _
  have c0 := row_at r0 0 (.int .i64 0) rfl
  have c1 := row_at r0 1 (.int .i64 i) rfl
  have c2 := row_at r0 2 (.bool b) rfl
  have hq := hh _ ((Below.refl w.heap.size w).alloc (Nat.le_refl _) (.cells #[.int .i64 0, .int .i64 i, .bool b] 29))
  clear hh
  go_enter Try.func11, Try.ntmps11
  go_wp2_with (go_at_call 17; refine hq.mono ?_; clear hq; rintro e w2 ⟨he, ht⟩; obtain rfl := he)
  go_ret2
  exact ⟨rfl, ht⟩
theorem do_1 (v : Value) (i : Int) (b : Bool) (w : World) (T : World → Prop) (hh : ∀ wa, Below w.heap.size w wa → Calls Try.prog 18 #[v, .int .i64 i] wa fun e w' => e = .returned (.tuple #[]) ∧ T w') :
    Calls Try.prog 11 #[v, .agg #[.int .i64 1, .int .i64 i, .bool b]] w fun e w' => e = .returned (.tuple #[.int .i64 0, .bool false]) ∧ T w' := by
  have r0 : Row (w.alloc (.cells #[.int .i64 1, .int .i64 i, .bool b] 29)) w.heap.size #[.int .i64 1, .int .i64 i, .bool b] 29 := Row.new _ _ _
  have c0 := row_at r0 0 (.int .i64 1) rfl
  have c1 := row_at r0 1 (.int .i64 i) rfl
  have c2 := row_at r0 2 (.bool b) rfl
  have hq := hh _ ((Below.refl w.heap.size w).alloc (Nat.le_refl _) (.cells #[.int .i64 1, .int .i64 i, .bool b] 29))
  clear hh
  go_enter Try.func11, Try.ntmps11
  go_wp2_with (go_at_call 18; refine hq.mono ?_; clear hq; rintro e w2 ⟨he, ht⟩; obtain rfl := he)
  go_ret2
  exact ⟨rfl, ht⟩
theorem do_3 (v : Value) (i : Int) (b : Bool) (w : World) (T : World → Prop) (hh : ∀ wa, Below w.heap.size w wa → Calls Try.prog 15 #[v, .int .i64 i, .bool b] wa fun e w' => e = .returned (.tuple #[]) ∧ T w') :
    Calls Try.prog 11 #[v, .agg #[.int .i64 3, .int .i64 i, .bool b]] w fun e w' => e = .returned (.tuple #[.int .i64 0, .bool false]) ∧ T w' := by
  have r0 : Row (w.alloc (.cells #[.int .i64 3, .int .i64 i, .bool b] 29)) w.heap.size #[.int .i64 3, .int .i64 i, .bool b] 29 := Row.new _ _ _
  have c0 := row_at r0 0 (.int .i64 3) rfl
  have c1 := row_at r0 1 (.int .i64 i) rfl
  have c2 := row_at r0 2 (.bool b) rfl
  have hq := hh _ ((Below.refl w.heap.size w).alloc (Nat.le_refl _) (.cells #[.int .i64 3, .int .i64 i, .bool b] 29))
  clear hh
  go_enter Try.func11, Try.ntmps11
  go_wp2_with (go_at_call 15; refine hq.mono ?_; clear hq; rintro e w2 ⟨he, ht⟩; obtain rfl := he)
  go_ret2
  exact ⟨rfl, ht⟩
theorem do_4 (v : Value) (i : Int) (b : Bool) (w : World) (T : World → Prop) (hh : ∀ wa, Below w.heap.size w wa → Calls Try.prog 20 #[v, .int .i64 i] wa fun e w' => e = .returned (.tuple #[]) ∧ T w') :
    Calls Try.prog 11 #[v, .agg #[.int .i64 4, .int .i64 i, .bool b]] w fun e w' => e = .returned (.tuple #[.int .i64 0, .bool false]) ∧ T w' := by
  have r0 : Row (w.alloc (.cells #[.int .i64 4, .int .i64 i, .bool b] 29)) w.heap.size #[.int .i64 4, .int .i64 i, .bool b] 29 := Row.new _ _ _
  have c0 := row_at r0 0 (.int .i64 4) rfl
  have c1 := row_at r0 1 (.int .i64 i) rfl
  have c2 := row_at r0 2 (.bool b) rfl
  have hq := hh _ ((Below.refl w.heap.size w).alloc (Nat.le_refl _) (.cells #[.int .i64 4, .int .i64 i, .bool b] 29))
  clear hh
  go_enter Try.func11, Try.ntmps11
  go_wp2_with (go_at_call 20; refine hq.mono ?_; clear hq; rintro e w2 ⟨he, ht⟩; obtain rfl := he)
  go_ret2
  exact ⟨rfl, ht⟩
theorem do_2 (v : Value) (i : Int) (b : Bool) (w : World) (T : World → Prop) (ok : Bool) (hh : ∀ wa, Below w.heap.size w wa → Calls Try.prog 19 #[v, .int .i64 i] wa fun e w' => e = .returned (.bool ok) ∧ T w') :
    Calls Try.prog 11 #[v, .agg #[.int .i64 2, .int .i64 i, .bool b]] w fun e w' => e = .returned (.tuple #[.int .i64 0, .bool ok]) ∧ T w' := by
  have r0 : Row (w.alloc (.cells #[.int .i64 2, .int .i64 i, .bool b] 29)) w.heap.size #[.int .i64 2, .int .i64 i, .bool b] 29 := Row.new _ _ _
  have c0 := row_at r0 0 (.int .i64 2) rfl
  have c1 := row_at r0 1 (.int .i64 i) rfl
  have c2 := row_at r0 2 (.bool b) rfl
  have hq := hh _ ((Below.refl w.heap.size w).alloc (Nat.le_refl _) (.cells #[.int .i64 2, .int .i64 i, .bool b] 29))
  clear hh
  go_enter Try.func11, Try.ntmps11
  go_wp2_with (go_at_call 19; refine hq.mono ?_; clear hq; rintro e w2 ⟨he, ht⟩; obtain rfl := he)
  go_ret2
  exact ⟨rfl, ht⟩
theorem do_5 (v : Value) (i : Int) (b : Bool) (w : World) (PP : Ending → World → Prop) (R : Int → Bool → World → Prop) (HR : ∀ z ok w', R z ok w' → PP (.returned (.tuple #[.int .i64 z, .bool ok])) w') (hh : ∀ wa, Below w.heap.size w wa → Calls Try.prog 16 #[v] wa fun e w' => ∃ z ok, e = .returned (.tuple #[.int .i64 z, .bool ok]) ∧ R z ok w') :
    Calls Try.prog 11 #[v, .agg #[.int .i64 5, .int .i64 i, .bool b]] w PP := by
  have r0 : Row (w.alloc (.cells #[.int .i64 5, .int .i64 i, .bool b] 29)) w.heap.size #[.int .i64 5, .int .i64 i, .bool b] 29 := Row.new _ _ _
  have c0 := row_at r0 0 (.int .i64 5) rfl
  have hq := hh _ ((Below.refl w.heap.size w).alloc (Nat.le_refl _) (.cells #[.int .i64 5, .int .i64 i, .bool b] 29))
  have H : Hid _ := HR
  clear hh HR
  go_enter Try.func11, Try.ntmps11
  go_wp2_with (go_at_call 16; refine hq.mono ?_; clear hq; rintro e w2 ⟨z, ok, he, ht⟩; obtain rfl := he)
  try go_ret2
  exact H.out _ _ _ ht
theorem do_other (v : Value) (k i : Int) (b : Bool) (w : World) (hk : ¬ k = 0 ∧ ¬ k = 1 ∧ ¬ k = 2 ∧ ¬ k = 3 ∧ ¬ k = 4 ∧ ¬ k = 5) :
    Calls Try.prog 11 #[v, .agg #[.int .i64 k, .int .i64 i, .bool b]] w fun e w' => e = .returned (.tuple #[.int .i64 0, .bool false]) ∧ Below w.heap.size w w' := by
  have r0 : Row (w.alloc (.cells #[.int .i64 k, .int .i64 i, .bool b] 29)) w.heap.size #[.int .i64 k, .int .i64 i, .bool b] 29 := Row.new _ _ _
  have c0 := row_at r0 0 (.int .i64 k) rfl
  have hb : Below w.heap.size w (w.alloc (.cells #[.int .i64 k, .int .i64 i, .bool b] 29)) := (Below.refl _ _).alloc (Nat.le_refl _) _
  obtain ⟨h0, h1, h2, h3, h4, h5⟩ := hk
  go_enter Try.func11, Try.ntmps11
  go_wp2
  go_ret2
  exact ⟨rfl, hb⟩
/-- What a call makes of a frame. -/
def upF (k : Int) (b : Bool) (x : Fr) : Fr :=
  if k = 0 then { x with seen := true } else if k = 1 then { x with pins := x.pins + 1 } else if k = 2 then (if x.pins = 0 then x else { x with pins := x.pins - 1 }) else if k = 3 then { x with cold := b } else if k = 4 then { x with seen := false, cold := false } else x
/-- What a call that gives up no frame makes of the frames, and what it answers. -/
def upd (k i : Int) (b : Bool) (fs : List Fr) : List Fr := if 0 ≤ i ∧ i < fs.length then (match fs[i.toNat]? with | some x => fs.set i.toNat (upF k b x) | none => fs) else fs
def okF (k i : Int) (fs : List Fr) : Bool := if 0 ≤ i ∧ i < fs.length then (match fs[i.toNat]? with | some x => decide (k = 2 ∧ ¬ x.pins = 0) | none => false) else false
/-- A call, and what it answers. -/
def Acted (k i : Int) (b : Bool) (fs : List Fr) (h : Nat) (z : Int) (ok : Bool) (fs' : List Fr) (h' : Nat) : Prop :=
  (k = 5 ∧ ∃ v : Nat, z = v ∧ Vict (ring fs h) v ok (ring fs' h') ∧ Same fs fs') ∨ (¬ k = 5 ∧ z = 0 ∧ ok = okF k i fs ∧ fs' = upd k i b fs ∧ h' = h)
def Done (w : World) (g a : Nat) (k i : Int) (b : Bool) (fs : List Fr) (h : Nat) (M : Int) (e : Ending) (w' : World) : Prop :=
  ∃ (z : Int) (ok : Bool) (fs' : List Fr) (h' : Nat), e = .returned (.tuple #[.int .i64 z, .bool ok]) ∧ Acted k i b fs h z ok fs' h' ∧ CAt w' g a fs' h' (M + 1) ∧ Off (two g a) w w'
theorem CAt.more {w : World} {g a : Nat} {fs : List Fr} {h : Nat} {M M' : Int} (c : CAt w g a fs h M) (hM : M ≤ M') (hb : M' < 1000000000000) : CAt w g a fs h M' :=
  { c with pins := fun x hx => by have := c.pins x hx; omega, big := hb }
theorem upd_out {k i : Int} {b : Bool} {fs : List Fr} (h : ¬ (0 ≤ i ∧ i < fs.length)) : upd k i b fs = fs ∧ okF k i fs = false := by
  unfold upd okF; rw [if_neg h, if_neg h]; exact ⟨rfl, rfl⟩
theorem upd_in {k : Int} {i : Nat} {b : Bool} {fs : List Fr} {x : Fr} (hx : fs[i]? = some x) : upd k i b fs = fs.set i (upF k b x) ∧ okF k i fs = decide (k = 2 ∧ ¬ x.pins = 0) := by
  have hi := (List.getElem?_eq_some_iff.1 hx).1
  unfold upd okF
  rw [if_pos ⟨by omega, by omega⟩, if_pos ⟨by omega, by omega⟩, Int.toNat_natCast, hx]
  exact ⟨rfl, rfl⟩
theorem set_same {fs : List Fr} {i : Nat} {x : Fr} (hx : fs[i]? = some x) : fs.set i x = fs := by
  have := (List.getElem?_eq_some_iff.1 hx).2
  rw [← this]; exact List.set_getElem_self _
theorem do_any {w : World} {g a : Nat} {fs : List Fr} {h : Nat} {M : Int} (c : CAt w g a fs h M) (hM : M + 1 < 1000000000000) (k i : Int) (b : Bool) :
    Calls Try.prog 11 #[.pointer (some ⟨g, 0, none⟩), .agg #[.int .i64 k, .int .i64 i, .bool b]] w fun e w' => Done w g a k i b fs h M e w' := by
  by_cases k5 : k = 5
  · subst k5
    refine do_5 _ i b w _ (fun z ok w' => ∃ fs' h', Acted 5 i b fs h z ok fs' h' ∧ CAt w' g a fs' h' (M + 1) ∧ Off (two g a) w w') ?_ ?_
    · rintro z ok w' ⟨fs', h', h1, h2, h3⟩
      exact ⟨z, ok, fs', h', rfl, h1, h2, h3⟩
    · intro wa hb
      refine (victim_any (c.below hb)).mono ?_
      rintro e w' ⟨v, ok, fs', h', rfl, h1, h2, h3, h4⟩
      exact ⟨v, ok, rfl, fs', h', Or.inl ⟨rfl, v, rfl, h1, h2⟩, h3.more (by omega) hM, (Off.of_below (F := two g a) hb).trans h4 (fun _ q => Or.inl q)⟩
  · by_cases hin : 0 ≤ i ∧ i < fs.length
    · obtain ⟨n, rfl⟩ : ∃ n : Nat, i = n := ⟨i.toNat, by omega⟩
      obtain ⟨x, hx⟩ := c.ex (i := n) (by omega)
      obtain ⟨u1, u2⟩ := upd_in (k := k) (b := b) hx
      have fin : ∀ {e : Ending} {w' : World} {ok : Bool} {y : Fr}, e = .returned (.tuple #[.int .i64 0, .bool ok]) → upF k b x = y → decide (k = 2 ∧ ¬ x.pins = 0) = ok → CAt w' g a (fs.set n y) h (M + 1) → Off (two g a) w w' → Done w g a k n b fs h M e w' := fun {e w' ok y} h1 h2 h3 h4 h5 =>
        ⟨0, ok, fs.set n y, h, h1, Or.inr ⟨k5, rfl, by rw [u2, h3], by rw [u1, h2], rfl⟩, h4, h5⟩
      have off : ∀ {wa w' : World}, Below w.heap.size w wa → Off (two g a) wa w' → Off (two g a) w w' := fun {wa w'} hb ho => (Off.of_below (F := two g a) hb).trans ho (fun _ q => Or.inl q)
      by_cases k0 : k = 0
      · subst k0
        refine (do_0 _ n b w (fun w' => CAt w' g a (fs.set n { x with seen := true }) h M ∧ Off (two g a) w w') fun wa hb => ?_).mono ?_
        · exact (touch_in (c.below hb) n x hx).mono fun e w' ⟨h1, h2, h3⟩ => ⟨h1, h2, off hb h3⟩
        · rintro e w' ⟨h1, h2, h3⟩
          exact fin h1 rfl (by simp) (h2.more (by omega) hM) h3
      by_cases k1 : k = 1
      · subst k1
        refine (do_1 _ n b w (fun w' => CAt w' g a (fs.set n { x with pins := x.pins + 1 }) h (M + 1) ∧ Off (two g a) w w') fun wa hb => ?_).mono ?_
        · exact (pin_in (c.below hb) n x hx hM).mono fun e w' ⟨h1, h2, h3⟩ => ⟨h1, h2, off hb h3⟩
        · rintro e w' ⟨h1, h2, h3⟩
          exact fin h1 rfl (by simp) h2 h3
      by_cases k2 : k = 2
      · subst k2
        by_cases hp : x.pins = 0
        · refine (do_2 _ n b w (fun w' => CAt w' g a fs h M ∧ Off (two g a) w w') false fun wa hb => ?_).mono ?_
          · refine (unpin_zero _ n wa ?_).mono fun e w' ⟨h1, h2⟩ => ⟨h1, by rw [h2]; exact ⟨c.below hb, off hb (Off.refl _ _)⟩⟩
            have := pins_in (c.below hb) n x hx
            rw [hp] at this; exact this
          · rintro e w' ⟨h1, h2, h3⟩
            refine fin h1 (y := x) (by unfold upF; simp [hp]) (by simp [hp]) ?_ h3
            rw [set_same hx]; exact h2.more (by omega) hM
        · refine (do_2 _ n b w (fun w' => CAt w' g a (fs.set n { x with pins := x.pins - 1 }) h M ∧ Off (two g a) w w') true fun wa hb => ?_).mono ?_
          · exact (unpin_in (c.below hb) n x hx hp).mono fun e w' ⟨h1, h2, h3⟩ => ⟨h1, h2, off hb h3⟩
          · rintro e w' ⟨h1, h2, h3⟩
            exact fin h1 (by unfold upF; simp [hp]) (by simp [hp]) (h2.more (by omega) hM) h3
      by_cases k3 : k = 3
      · subst k3
        refine (do_3 _ n b w (fun w' => CAt w' g a (fs.set n { x with cold := b }) h M ∧ Off (two g a) w w') fun wa hb => ?_).mono ?_
        · exact (cold_in (c.below hb) n x hx b).mono fun e w' ⟨h1, h2, h3⟩ => ⟨h1, h2, off hb h3⟩
        · rintro e w' ⟨h1, h2, h3⟩
          exact fin h1 rfl (by simp) (h2.more (by omega) hM) h3
      by_cases k4 : k = 4
      · subst k4
        refine (do_4 _ n b w (fun w' => CAt w' g a (fs.set n { x with seen := false, cold := false }) h M ∧ Off (two g a) w w') fun wa hb => ?_).mono ?_
        · exact (clear_in (c.below hb) n x hx).mono fun e w' ⟨h1, h2, h3⟩ => ⟨h1, h2, off hb h3⟩
        · rintro e w' ⟨h1, h2, h3⟩
          exact fin h1 rfl (by simp) (h2.more (by omega) hM) h3
      · refine (do_other _ k n b w ⟨k0, k1, k2, k3, k4, k5⟩).mono ?_
        rintro e w' ⟨h1, h2⟩
        refine fin h1 (y := x) (by unfold upF; simp [k0, k1, k2, k3, k4]) (by simp [k2]) ?_ (off h2 (Off.refl _ _))
        rw [set_same hx]; exact (c.below h2).more (by omega) hM
    · obtain ⟨u1, u2⟩ := upd_out (k := k) (b := b) hin
      have fin : ∀ {e : Ending} {w' : World}, e = .returned (.tuple #[.int .i64 0, .bool false]) → Below w.heap.size w w' → Done w g a k i b fs h M e w' := fun {e w'} h1 h2 =>
        ⟨0, false, fs, h, h1, Or.inr ⟨k5, rfl, u2.symm, u1.symm, rfl⟩, (c.below h2).more (by omega) hM, Off.of_below h2⟩
      have hno : ∀ wa, Below w.heap.size w wa → Calls Try.prog 22 #[.pointer (some ⟨g, 0, none⟩), .int .i64 i] wa fun e w' => e = .returned (.bool false) ∧ w' = wa := fun wa hb => by
        have := has_any (c.below hb) i
        rwa [decide_eq_false hin] at this
      by_cases k0 : k = 0
      · subst k0
        refine (do_0 _ i b w (fun w' => Below w.heap.size w w') fun wa hb => ?_).mono fun e w' ⟨h1, h2⟩ => fin h1 h2
        exact (touch_out _ i wa (hno wa hb)).mono fun e w' ⟨h1, h2⟩ => ⟨h1, by rw [h2]; exact hb⟩
      by_cases k1 : k = 1
      · subst k1
        refine (do_1 _ i b w (fun w' => Below w.heap.size w w') fun wa hb => ?_).mono fun e w' ⟨h1, h2⟩ => fin h1 h2
        exact (pin_out _ i wa (hno wa hb)).mono fun e w' ⟨h1, h2⟩ => ⟨h1, by rw [h2]; exact hb⟩
      by_cases k2 : k = 2
      · subst k2
        refine (do_2 _ i b w (fun w' => Below w.heap.size w w') false fun wa hb => ?_).mono fun e w' ⟨h1, h2⟩ => fin h1 h2
        exact (unpin_zero _ i wa (pins_out _ i wa (hno wa hb))).mono fun e w' ⟨h1, h2⟩ => ⟨h1, by rw [h2]; exact hb⟩
      by_cases k3 : k = 3
      · subst k3
        refine (do_3 _ i b w (fun w' => Below w.heap.size w w') fun wa hb => ?_).mono fun e w' ⟨h1, h2⟩ => fin h1 h2
        exact (cold_out _ i wa b (hno wa hb)).mono fun e w' ⟨h1, h2⟩ => ⟨h1, by rw [h2]; exact hb⟩
      by_cases k4 : k = 4
      · subst k4
        refine (do_4 _ i b w (fun w' => Below w.heap.size w w') fun wa hb => ?_).mono fun e w' ⟨h1, h2⟩ => fin h1 h2
        exact (clear_out _ i wa (hno wa hb)).mono fun e w' ⟨h1, h2⟩ => ⟨h1, by rw [h2]; exact hb⟩
      · exact (do_other _ k i b w ⟨k0, k1, k2, k3, k4, k5⟩).mono fun e w' ⟨h1, h2⟩ => fin h1 h2
theorem has_nil (i : Int) (w : World) : Calls Try.prog 22 #[.pointer none, .int .i64 i] w fun e w' => e = .returned (.bool false) ∧ w' = w := by
  go_enter Try.func22, Try.ntmps22
  go_wp2
  go_ret
  exact ⟨rfl, rfl⟩
theorem do_nil (k i : Int) (b : Bool) (w : World) : Calls Try.prog 11 #[.pointer none, .agg #[.int .i64 k, .int .i64 i, .bool b]] w fun e w' => e = .returned (.tuple #[.int .i64 0, .bool false]) ∧ Below w.heap.size w w' := by
  by_cases k5 : k = 5
  · subst k5
    refine do_5 _ i b w _ (fun z ok w' => z = 0 ∧ ok = false ∧ Below w.heap.size w w') ?_ ?_
    · rintro z ok w' ⟨rfl, rfl, h3⟩
      exact ⟨rfl, h3⟩
    · exact fun wa hb => (victim_nil wa).mono fun e w' ⟨h1, h2⟩ => ⟨0, false, h1, rfl, rfl, by rw [h2]; exact hb⟩
  by_cases k0 : k = 0
  · subst k0
    exact do_0 _ i b w (fun w' => Below w.heap.size w w') fun wa hb => (touch_out _ i wa (has_nil i wa)).mono fun e w' ⟨h1, h2⟩ => ⟨h1, by rw [h2]; exact hb⟩
  by_cases k1 : k = 1
  · subst k1
    exact do_1 _ i b w (fun w' => Below w.heap.size w w') fun wa hb => (pin_out _ i wa (has_nil i wa)).mono fun e w' ⟨h1, h2⟩ => ⟨h1, by rw [h2]; exact hb⟩
  by_cases k2 : k = 2
  · subst k2
    exact do_2 _ i b w (fun w' => Below w.heap.size w w') false fun wa hb => (unpin_zero _ i wa (pins_out _ i wa (has_nil i wa))).mono fun e w' ⟨h1, h2⟩ => ⟨h1, by rw [h2]; exact hb⟩
  by_cases k3 : k = 3
  · subst k3
    exact do_3 _ i b w (fun w' => Below w.heap.size w w') fun wa hb => (cold_out _ i wa b (has_nil i wa)).mono fun e w' ⟨h1, h2⟩ => ⟨h1, by rw [h2]; exact hb⟩
  by_cases k4 : k = 4
  · subst k4
    exact do_4 _ i b w (fun w' => Below w.heap.size w w') fun wa hb => (clear_out _ i wa (has_nil i wa)).mono fun e w' ⟨h1, h2⟩ => ⟨h1, by rw [h2]; exact hb⟩
  · exact do_other _ k i b w ⟨k0, k1, k2, k3, k4, k5⟩
end Go.Proofs.Ytobdeijbmnenmab
