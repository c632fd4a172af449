/-
  The library sort of a short list of numbers, as it is walked.
-/
import Derived.Test.YtmnbfcmamhinbabArr
import Derived.Test.YtmnbfcmamhinbabS2n
import Derived.Deep.Draws
import Derived.Deep.QuietTactic
import Derived.BigQuiet
import Derived.BigRegion
import Derived.CellFam
import Derived.WalkSmall
namespace Go.Proofs.Ytmnbfcmamhinbab.S2
open Go.ChangeShapes Go.WideShapes Go.ChangeAt Go.RowKit
open Go.Deep
set_option linter.unusedVariables false
set_option linter.unusedSimpArgs false

/-- Numbers as cells. -/
def us (xs : List Int) : List Value := xs.map (Value.int .u16)
theorem us_length (xs : List Int) : (us xs).length = xs.length := by simp [us]
/-- A row whose first cells are these numbers. -/
structure UAt (w : World) (g : Nat) (cur : Array Value) (xs : List Int) : Prop where
  row : Row w g cur 40
  pre : cur.toList.take xs.length = us xs
theorem UAt.cell {w : World} {g : Nat} {cur : Array Value} {xs : List Int} (h : UAt w g cur xs) (j : Nat) (x : Int) (hx : xs[j]? = some x) : w.cell? ⟨g, j, none⟩ = some (.int .u16 x) := by
  refine row_at h.row j _ ?_
  have hj := (List.getElem?_eq_some_iff.1 hx).1
  have e : (cur.toList.take xs.length)[j]? = some (.int .u16 x) := by rw [h.pre]; simp [us, hx]
  rw [List.getElem?_take, if_pos hj] at e
  simpa using e
theorem UAt.off {F : Nat → Prop} {w w' : World} {g : Nat} {cur : Array Value} {xs : List Int} (h : UAt w g cur xs) (ho : Off F w w') (hF : ¬ F g) : UAt w' g cur xs := ⟨h.row.off ho hF, h.pre⟩
theorem UAt.swap {w : World} {g : Nat} {cur : Array Value} {A B : List Int} {x y : Int} (h : UAt w g cur (A ++ y :: x :: B)) :
    UAt ((w.setCell ⟨g, A.length + 1, none⟩ (.int .u16 y)).setCell ⟨g, A.length, none⟩ (.int .u16 x)) g ((cur.setIfInBounds (A.length + 1) (.int .u16 y)).setIfInBounds A.length (.int .u16 x)) (A ++ x :: y :: B) := by
  refine ⟨row_set (row_set h.row _ _) _ _, ?_⟩
  have e0 : (A ++ x :: y :: B).length = (A ++ y :: x :: B).length := by simp
  rw [Array.toList_setIfInBounds, Array.toList_setIfInBounds, e0, List.take_set, List.take_set, h.pre]
  have e1 : us (A ++ y :: x :: B) = us A ++ .int .u16 y :: .int .u16 x :: us B := by simp [us]
  have e2 : us (A ++ x :: y :: B) = us A ++ .int .u16 x :: .int .u16 y :: us B := by simp [us]
  have e3 : (us A).length = A.length := us_length A
  rw [e1, e2, List.set_append_right _ _ (by omega), e3, List.set_append_right _ _ (by omega), e3]
  simp
theorem isNaN_any (x : Int) (w : World) : Calls Try.prog 59 #[.int .u16 x] w fun e w' => e = .returned (.bool false) ∧ w' = w := by
  go_enter Try.func59, Try.ntmps59
  go_wp2
  go_ret
  exact ⟨rfl, rfl⟩
theorem less_any (x y : Int) (b : Bool) (hb : decide (x < y) = b) (w : World) : Calls Try.prog 49 #[.int .u16 x, .int .u16 y] w fun e w' => e = .returned (.bool b) ∧ w' = w := by
  have h1 := isNaN_any x w
  have HB : Hid _ := hb
  clear hb
  go_enter Try.func49, Try.ntmps49
  go_wp2_with (go_at_call 59; refine h1.mono ?_; clear h1; rintro e wb ⟨he, hww⟩; rw [hww]; clear hww wb; obtain rfl := he)
  go_ret
  exact ⟨by rw [← HB.out]; rfl, rfl⟩
/-- What a sort leaves. -/
def Sorted (w : World) (g : Nat) (xs : List Int) (e : Ending) (w' : World) : Prop :=
  e = .returned (.tuple #[]) ∧ ∃ ys cur, ys.Perm xs ∧ ys.Pairwise (· ≤ ·) ∧ UAt w' g cur ys ∧ Off (· = g) w w'
theorem off_drewN {F : Nat → Prop} {a b : World} (h : Off F a b) (n : Nat) : Off F a (b.drewN n) := ⟨h.os, h.tape, h.output, h.size, h.block⟩
theorem UAt.drewN {w : World} {g : Nat} {cur : Array Value} {xs : List Int} (h : UAt w g cur xs) (n : Nat) : UAt (w.drewN n) g cur xs := ⟨h.row, h.pre⟩
theorem sorted_put {A B : List Int} {x : Int} (h : (A ++ B).Pairwise (· ≤ ·)) (hB : ∀ b ∈ B, x ≤ b) (hA : ∀ a ∈ A, a ≤ x) : (A ++ x :: B).Pairwise (· ≤ ·) := by
  obtain ⟨h1, h2, h3⟩ := List.pairwise_append.1 h
  refine List.pairwise_append.2 ⟨h1, List.pairwise_cons.2 ⟨hB, h2⟩, fun a ha b hb => ?_⟩
  rcases List.mem_cons.1 hb with rfl | hb
  · exact hA a ha
  · exact h3 a ha b hb
theorem sorted_last {A : List Int} {y x : Int} (h : (A ++ [y]).Pairwise (· ≤ ·)) (hy : y ≤ x) : ∀ a ∈ A ++ [y], a ≤ x := fun a ha => by
  obtain ⟨_, _, h3⟩ := List.pairwise_append.1 h
  rcases List.mem_append.1 ha with q | q
  · exact Int.le_trans (h3 a q y (by simp)) hy
  · simp at q; subst q; exact hy
set_option maxHeartbeats 2000000 in
theorem isort_any {w : World} {g cap : Nat} {cur : Array Value} {xs : List Int} (h : UAt w g cur xs) (n : Nat) (hn : xs.length = n) (hs : n < 1000000000000) :
    Calls Try.prog 43 #[.slice (some ⟨g, 0, none⟩) n cap, .int .i64 0, .int .i64 n] w fun e w' => Sorted w g xs e w' := by
  have HN : Hid _ := hn
  clear hn
  go_enter Try.func43, Try.ntmps43
  go_wp2
  go_loopw [6] (fun vi wr => ∃ (i : Nat) (cur : Array Value) (ys : List Int), vi = .int .i64 i ∧ 1 ≤ i ∧ i ≤ n + 1 ∧ Hid (ys.Perm xs) ∧ Hid ((ys.take i).Pairwise (· ≤ ·)) ∧ UAt wr g cur ys ∧ Off (· = g) w wr) (fun vi _ => n + 1 - (intOf vi).toNat)
  case atStart => exact ⟨1, cur, xs, rfl, by omega, by omega, List.Perm.refl _, by
    show List.Pairwise _ _
    cases xs with
    | nil => simp
    | cons a r => simp, h, Off.refl _ _⟩
  case round =>
    clear h
    obtain ⟨i, cur, ys, rfl, hi1, hin, HP, HO, U, ro⟩ := hrel
    have hlen : ys.length = n := by rw [HP.out.length_eq]; exact HN.out
    by_cases hlt : i < n
    · have hlt' : (i : Int) < n := by omega
      have HL : Hid _ := hlen
      clear hlen
      go_wp2
      rename World => wo
      go_loopw [7] (fun vj wr => ∃ (A B C : List Int) (x : Int) (cur : Array Value), vj = .int .i64 A.length ∧ Hid (A.length + B.length = i) ∧ Hid ((A ++ x :: (B ++ C)).Perm xs) ∧ Hid ((A ++ B).Pairwise (· ≤ ·)) ∧ Hid (∀ b ∈ B, x ≤ b) ∧ UAt wr g cur (A ++ x :: (B ++ C)) ∧ Off (· = g) w wr) (fun vj _ => (intOf vj).toNat)
      case atStart =>
        have hil : i < ys.length := by rw [HL.out]; exact hlt
        have e : ys = ys.take i ++ ys[i] :: ([] ++ ys.drop (i + 1)) := by
          rw [List.nil_append, ← List.drop_eq_getElem_cons hil, List.take_append_drop]
        have el : (ys.take i).length = i := by rw [List.length_take]; omega
        refine ⟨ys.take i, [], ys.drop (i + 1), ys[i], cur, by rw [el], by show _ = _; rw [el]; rfl, ?_, by show List.Pairwise _ _; rw [List.append_nil]; exact HO.out, fun b hb => (nomatch hb), ?_, ro⟩
        · show List.Perm _ _
          rw [← e]; exact HP.out
        · rw [← e]; exact U
      case round =>
        clear U ro HP HO
        obtain ⟨A, B, C, x, cur, rfl, HAB, HP, HO, HB, U, ro⟩ := hrel
        have HLL : Hid ((A ++ x :: (B ++ C)).length = n) := by show _ = _; rw [HP.out.length_eq]; exact HN.out
        have END : Hid (A = [] ∨ (∃ A' y, A = A' ++ [y] ∧ y ≤ x) → ∀ q, ∃ (i' : Nat) (cur' : Array Value) (ys' : List Int), Value.int .i64 ((i : Int) + 1) = .int .i64 (i' : Nat) ∧ 1 ≤ i' ∧ i' ≤ n + 1 ∧ Hid (ys'.Perm xs) ∧ Hid ((ys'.take i').Pairwise (· ≤ ·)) ∧ UAt (wr.drewN q) g cur' ys' ∧ Off (· = g) w (wr.drewN q)) := fun hA q => by
          refine ⟨i + 1, cur, _, by go_num, by omega, by omega, HP.out, ?_, U.drewN q, off_drewN ro q⟩
          show List.Pairwise _ _
          have e : (A ++ x :: (B ++ C)).take (i + 1) = A ++ x :: B := by
            have e1 : A ++ x :: (B ++ C) = (A ++ x :: B) ++ C := by simp
            have e2 : (A ++ x :: B).length = i + 1 := by have := HAB.out; simp; omega
            rw [e1, ← e2, List.take_left']
            rfl
          rw [e]
          refine sorted_put HO.out HB.out ?_
          rcases hA with rfl | ⟨A', y, rfl, hy⟩
          · intro a ha; cases ha
          · exact sorted_last (List.pairwise_append.1 HO.out).1 hy
        rcases List.eq_nil_or_concat A with rfl | ⟨A', y, rfl⟩
        · have hj : decide ((([] : List Int).length : Int) > 0) = false := rfl
          have hj2 : ((([] : List Int).length : Nat) : Int) = 0 := rfl
          go_wp2
          go_quiet (fail)
          go_wp2
          go_roundw
          case rel => exact END.out (by simp) nq
          case measure => first | (simp [intOf]; done) | (simp [intOf]; omega)
        · rw [List.concat_eq_append] at *
          have elen : ((A' ++ [y]).length : Int) = (A'.length : Int) + 1 := by simp
          rw [elen]
          have c1 := U.cell (A'.length + 1) x (by simp)
          have c0 := U.cell A'.length y (by simp)
          have f1 := row_frozen U.row (A'.length + 1)
          have f0 := row_frozen U.row A'.length
          have hA1 : A'.length + 1 < n := by
            have := HLL.out
            simp at this
            omega
          have U2 : UAt wr g cur (A' ++ y :: x :: (B ++ C)) := by
            have e : A' ++ y :: x :: (B ++ C) = A' ++ [y] ++ x :: (B ++ C) := by simp
            rw [e]; exact U
          have HSW : Hid (∀ q, UAt (((wr.drewN q).setCell ⟨g, A'.length + 1, none⟩ (.int .u16 y)).setCell ⟨g, A'.length, none⟩ (.int .u16 x)) g ((cur.setIfInBounds (A'.length + 1) (.int .u16 y)).setIfInBounds A'.length (.int .u16 x)) (A' ++ x :: y :: (B ++ C)) ∧ Off (· = g) w (((wr.drewN q).setCell ⟨g, A'.length + 1, none⟩ (.int .u16 y)).setCell ⟨g, A'.length, none⟩ (.int .u16 x))) := fun q =>
            ⟨(U2.drewN q).swap, ((off_drewN ro q).trans (Off.of_setCell (F := (· = g)) _ _ _ rfl) (fun j e => Or.inl e)).trans (Off.of_setCell (F := (· = g)) _ _ _ rfl) (fun j e => Or.inl e)⟩
          clear U U2 elen ro
          obtain ⟨a, HA⟩ : ∃ a, Hid (A'.length = a) := ⟨_, rfl⟩
          rw [HA.out] at c1 c0 f1 f0 hA1 HSW ⊢
          have i1 : (0 : Int) ≤ (a : Int) + 1 := by omega
          have i2 : (a : Int) + 1 < (n : Int) := by omega
          have i3 : (a : Int) < (n : Int) := by omega
          have i4 : (a : Int) + 1 > 0 := by omega
          have i5 : IntKind.i64.wrap ((a : Int) + 1 - 1) = (a : Int) := by rw [IntKind.wrap_i64]; omega
          by_cases hxy : x < y
          · have hless := fun w => less_any x y true (decide_eq_true hxy) w
            go_wp2
            go_quiet (first | (go_at_call 49; refine Calls.quiet_of_same (hless _)))
            go_wp2
            clear END
            go_region
            all_goals go_wp2
            go_roundw
            case rel =>
              refine ⟨A', y :: B, C, x, _, by rw [HA.out], ?_, ?_, ?_, ?_, (HSW.out _).1, (HSW.out _).2⟩
              · have := HAB.out
                show _ = _
                simp at this ⊢
                omega
              · show List.Perm _ _
                refine List.Perm.trans ?_ HP.out
                have e : A' ++ [y] ++ x :: (B ++ C) = A' ++ y :: x :: (B ++ C) := by simp
                rw [e]
                exact List.Perm.append_left _ (List.Perm.swap _ _ _)
              · show List.Pairwise _ _
                have e : A' ++ y :: B = A' ++ [y] ++ B := by simp
                rw [e]; exact HO.out
              · intro b hb
                rcases List.mem_cons.1 hb with rfl | hb
                · omega
                · exact HB.out b hb
            case measure => first | (simp [intOf]; done) | (simp [intOf]; omega)
          · have hless := fun w => less_any x y false (decide_eq_false hxy) w
            go_wp2
            go_quiet (first | (go_at_call 49; refine Calls.quiet_of_same (hless _)))
            go_wp2
            go_roundw
            case rel => exact END.out (Or.inr ⟨A', y, rfl, by omega⟩) nq
            case measure => first | (simp [intOf]; done) | (simp [intOf]; omega)
    · have hlt' : ¬ (i : Int) < n := by omega
      have HF : Hid (ys.Perm xs ∧ ys.Pairwise (· ≤ ·)) := ⟨HP.out, by
        have := HO.out
        rw [List.take_of_length_le (by omega)] at this
        exact this⟩
      go_wp2
      go_end0
      exact ⟨rfl, ys, cur, HF.out.1, HF.out.2, U, ro⟩
/-- The whole sort, of at most twelve. -/
theorem pdq_any {w : World} {g cap : Nat} {cur : Array Value} {xs : List Int} (h : UAt w g cur xs) (n : Nat) (hn : xs.length = n) (hs : n ≤ 12) (z : Int) :
    Calls Try.prog 41 #[.slice (some ⟨g, 0, none⟩) n cap, .int .i64 0, .int .i64 n, .int .i64 z] w fun e w' => Sorted w g xs e w' := by
  have hi := isort_any (cap := cap) h n hn (by omega)
  have h12 : (n : Int) ≤ 12 := by omega
  have hwn : IntKind.i64.wrap (n : Int) = n := by rw [IntKind.wrap_i64]; omega
  obtain ⟨PP, HPP⟩ : ∃ PP : Ending → World → Prop, Hid (PP = fun e w' => Sorted w g xs e w') := ⟨_, rfl⟩
  have HQ : Hid (∀ e w', Sorted w g xs e w' → e = .returned (.tuple #[]) ∧ PP (.returned (.tuple #[])) w') := fun e w' q => by rw [HPP.out]; have q' := q; obtain ⟨rfl, _⟩ := q'; exact ⟨rfl, q⟩
  rw [← HPP.out]
  clear HPP h
  go_enter Try.func41, Try.ntmps41
  go_wp2_with fail
  go_loopw [1, 2] (fun a b wr => a = .int .i64 0 ∧ b = .int .i64 n ∧ wr = w) (fun _ _ _ => 0)
  case atStart => exact ⟨rfl, rfl, rfl⟩
  case round =>
    obtain ⟨rfl, rfl, rfl⟩ := hrel
    go_wp2_with (go_at_call 43; refine hi.mono ?_; clear hi; intro e w2 hq; obtain ⟨he, hq2⟩ := HQ.out _ _ hq; obtain rfl := he; clear hq)
    first | go_end0 | refine bodyPost_ret (results_none rfl _ _ _) rfl ?_
    exact hq2
theorem len_any (n : Nat) (hs : n ≤ 12) (w : World) : Calls Try.prog 42 #[.int .u64 n] w fun e w' => e = .returned (.int .i64 (blen n)) ∧ w' = w := by
  have h1 := len64_any n w (by omega) (by omega)
  go_enter Try.func42, Try.ntmps42
  go_wp2_with (go_at_call 53; refine h1.mono ?_; clear h1; rintro e wb ⟨he, hww⟩; rw [hww]; clear hww wb; obtain rfl := he)
  go_ret
  exact ⟨rfl, rfl⟩
theorem sort_any {w : World} {g cap : Nat} {cur : Array Value} {xs : List Int} (h : UAt w g cur xs) (n : Nat) (hn : xs.length = n) (hs : n ≤ 12) :
    Calls Try.prog 39 #[.slice (some ⟨g, 0, none⟩) n cap] w fun e w' => Sorted w g xs e w' := by
  have hp := pdq_any (cap := cap) h n hn hs (blen n)
  have hl := len_any n hs w
  have hcv : IntKind.u64.wrap (n : Int) = n := by rw [IntKind.wrap_u64]; omega
  obtain ⟨PP, HPP⟩ : ∃ PP : Ending → World → Prop, Hid (PP = fun e w' => Sorted w g xs e w') := ⟨_, rfl⟩
  have HQ : Hid (∀ e w', Sorted w g xs e w' → e = .returned (.tuple #[]) ∧ PP (.returned (.tuple #[])) w') := fun e w' q => by rw [HPP.out]; have q' := q; obtain ⟨rfl, _⟩ := q'; exact ⟨rfl, q⟩
  rw [← HPP.out]
  clear HPP h
  go_enter Try.func39, Try.ntmps39
  go_wp2_with (first
    | (go_at_call 42; refine hl.mono ?_; clear hl; rintro e wb ⟨he, hww⟩; rw [hww]; clear hww wb; obtain rfl := he)
    | (go_at_call 41; refine hp.mono ?_; clear hp; intro e w2 hq; obtain ⟨he, hq2⟩ := HQ.out _ _ hq; obtain rfl := he; clear hq))
  first | go_end0 | refine bodyPost_ret (results_none rfl _ _ _) rfl ?_
  exact hq2
end Go.Proofs.Ytmnbfcmamhinbab.S2
