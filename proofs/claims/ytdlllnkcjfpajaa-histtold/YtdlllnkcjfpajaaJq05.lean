/-
  The library sort of a short list of numbers, as it is walked. Plain facts: who has committed which versions. Plain facts on operations of regions that draw: builds, loads of structs, stores into maps.
-/
import Derived.Test.YtdlllnkcjfpajaaJq00
import Derived.Test.YtdlllnkcjfpajaaJq04
import Derived.Deep.Draws
import Derived.Deep.QuietTactic
import Derived.BigQuiet
import Derived.BigRegion
import Derived.CellFam
import Derived.WalkSmall
import Derived.Test.YtdlllnkcjfpajaaJq02
import Derived.Test.YtdlllnkcjfpajaaJq03
import Derived.Test.YtdlllnkcjfpajaaJq01
namespace Go.Proofs.Ytdlllnkcjfpajaa.U4
open Go.ChangeShapes Go.WideShapes Go.ChangeAt Go.RowKit
open Go.Deep
set_option linter.unusedVariables false
set_option linter.unusedSimpArgs false
def us (xs : List Int) : List Value := xs.map (Value.int .u32)
theorem us_length (xs : List Int) : (us xs).length = xs.length := by simp [us]
structure UAt (w : World) (g : Nat) (cur : Array Value) (xs : List Int) : Prop where
  row : Row w g cur 35
  pre : cur.toList.take xs.length = us xs
theorem UAt.cell {w : World} {g : Nat} {cur : Array Value} {xs : List Int} (h : UAt w g cur xs) (j : Nat) (x : Int) (hx : xs[j]? = some x) : w.cell? ⟨g, j, none⟩ = some (.int .u32 x) := by
  refine row_at h.row j _ ?_
  have hj := (List.getElem?_eq_some_iff.1 hx).1
  have e : (cur.toList.take xs.length)[j]? = some (.int .u32 x) := by rw [h.pre]; simp [us, hx]
  rw [List.getElem?_take, if_pos hj] at e
  simpa using e
theorem UAt.off {F : Nat → Prop} {w w' : World} {g : Nat} {cur : Array Value} {xs : List Int} (h : UAt w g cur xs) (ho : Off F w w') (hF : ¬ F g) : UAt w' g cur xs := ⟨h.row.off ho hF, h.pre⟩
theorem UAt.swap {w : World} {g : Nat} {cur : Array Value} {A B : List Int} {x y : Int} (h : UAt w g cur (A ++ y :: x :: B)) :
    UAt ((w.setCell ⟨g, A.length + 1, none⟩ (.int .u32 y)).setCell ⟨g, A.length, none⟩ (.int .u32 x)) g ((cur.setIfInBounds (A.length + 1) (.int .u32 y)).setIfInBounds A.length (.int .u32 x)) (A ++ x :: y :: B) := by
  refine ⟨row_set (row_set h.row _ _) _ _, ?_⟩
  have e0 : (A ++ x :: y :: B).length = (A ++ y :: x :: B).length := by simp
  rw [Array.toList_setIfInBounds, Array.toList_setIfInBounds, e0, List.take_set, List.take_set, h.pre]
  have e1 : us (A ++ y :: x :: B) = us A ++ .int .u32 y :: .int .u32 x :: us B := by simp [us]
  have e2 : us (A ++ x :: y :: B) = us A ++ .int .u32 x :: .int .u32 y :: us B := by simp [us]
  have e3 : (us A).length = A.length := us_length A
  rw [e1, e2, List.set_append_right _ _ (by omega), e3, List.set_append_right _ _ (by omega), e3]
  simp
theorem isNaN_any (x : Int) (w : World) : Calls Try.prog 60 #[.int .u32 x] w fun e w' => e = .returned (.bool false) ∧ w' = w := by
  go_enter Try.func60, Try.ntmps60
  go_wp2
  go_ret
  exact ⟨rfl, rfl⟩
theorem less_any (x y : Int) (b : Bool) (hb : decide (x < y) = b) (w : World) : Calls Try.prog 72 #[.int .u32 x, .int .u32 y] w fun e w' => e = .returned (.bool b) ∧ w' = w := by
  have h1 := isNaN_any x w
  have HB : Hid _ := hb
  clear hb
  go_enter Try.func72, Try.ntmps72
  go_wp2_with (go_at_call 60; refine h1.mono ?_; clear h1; rintro e wb ⟨he, hww⟩; rw [hww]; clear hww wb; obtain rfl := he)
  go_ret
  exact ⟨by rw [← HB.out]; rfl, rfl⟩
def Sorted (w : World) (g : Nat) (xs : List Int) (e : Ending) (w' : World) : Prop :=
  e = .returned (.tuple #[]) ∧ ∃ ys cur, ys.Perm xs ∧ ys.Pairwise (· ≤ ·) ∧ UAt w' g cur ys ∧ Off (· = g) w w'
theorem off_drewN {F : Nat → Prop} {a b : World} (h : Off F a b) (n : Nat) : Off F a (b.drewN n) := ⟨h.os, h.tape, h.output, h.size, h.block⟩
theorem UAt.drewN {w : World} {g : Nat} {cur : Array Value} {xs : List Int} (h : UAt w g cur xs) (n : Nat) : UAt (w.drewN n) g cur xs := ⟨h.row, h.pre⟩
theorem sorted_put {A B : List Int} {x : Int} (h : (A ++ B).Pairwise (· ≤ ·)) (hB : ∀ b ∈ B, x ≤ b) (hA : ∀ a ∈ A, a ≤ x) : (A ++ x :: B).Pairwise (· ≤ ·) := by
  obtain ⟨h1, h2, h3⟩ := List.pairwise_append.1 h
  refine List.pairwise_append.2 ⟨h1, List.pairwise_cons.2 ⟨hB, h2⟩, fun a ha b hb => ?_⟩
  rcases List.mem_cons.1 hb with rfl | hb
  · exact hA a ha
  · exact h3 a ha b hb
theorem sorted_last {A : List Int} {y x : Int} (h : (A ++ [y]).Pairwise (· ≤ ·)) (hy : y ≤ x) : ∀ a ∈ A ++ [y], a ≤ x := fun a ha => by
  obtain ⟨_, _, h3⟩ := List.pairwise_append.1 h
  rcases List.mem_append.1 ha with q | q
  · exact Int.le_trans (h3 a q y (by simp)) hy
  · simp at q; subst q; exact hy
set_option maxHeartbeats 2000000 in
theorem isort_any {w : World} {g cap : Nat} {cur : Array Value} {xs : List Int} (h : UAt w g cur xs) (n : Nat) (hn : xs.length = n) (hs : n < 1000000000000) :
    Calls Try.prog 77 #[.slice (some ⟨g, 0, none⟩) n cap, .int .i64 0, .int .i64 n] w fun e w' => Sorted w g xs e w' := by
  have HN : Hid _ := hn
  clear hn
  go_enter Try.func77, Try.ntmps77
  go_wp2
  go_loopw [6] (fun vi wr => ∃ (i : Nat) (cur : Array Value) (ys : List Int), vi = .int .i64 i ∧ 1 ≤ i ∧ i ≤ n + 1 ∧ Hid (ys.Perm xs) ∧ Hid ((ys.take i).Pairwise (· ≤ ·)) ∧ UAt wr g cur ys ∧ Off (· = g) w wr) (fun vi _ => n + 1 - (intOf vi).toNat)
  case atStart => exact ⟨1, cur, xs, rfl, by omega, by omega, List.Perm.refl _, by
    show List.Pairwise _ _
    cases xs with
    | nil => simp
    | cons a r => simp, h, Off.refl _ _⟩
  case round =>
    clear h
    obtain ⟨i, cur, ys, rfl, hi1, hin, HP, HO, U, ro⟩ := hrel
    have hlen : ys.length = n := by rw [HP.out.length_eq]; exact HN.out
    by_cases hlt : i < n
    · have hlt' : (i : Int) < n := by omega
      have HL : Hid _ := hlen
      clear hlen
      go_wp2
      rename World => wo
      go_loopw [7] (fun vj wr => ∃ (A B C : List Int) (x : Int) (cur : Array Value), vj = .int .i64 A.length ∧ Hid (A.length + B.length = i) ∧ Hid ((A ++ x :: (B ++ C)).Perm xs) ∧ Hid ((A ++ B).Pairwise (· ≤ ·)) ∧ Hid (∀ b ∈ B, x ≤ b) ∧ UAt wr g cur (A ++ x :: (B ++ C)) ∧ Off (· = g) w wr) (fun vj _ => (intOf vj).toNat)
      case atStart =>
        have hil : i < ys.length := by rw [HL.out]; exact hlt
        have e : ys = ys.take i ++ ys[i] :: ([] ++ ys.drop (i + 1)) := by
          rw [List.nil_append, ← List.drop_eq_getElem_cons hil, List.take_append_drop]
        have el : (ys.take i).length = i := by rw [List.length_take]; omega
        refine ⟨ys.take i, [], ys.drop (i + 1), ys[i], cur, by rw [el], by show _ = _; rw [el]; rfl, ?_, by show List.Pairwise _ _; rw [List.append_nil]; exact HO.out, fun b hb => (nomatch hb), ?_, ro⟩
        · show List.Perm _ _
          rw [← e]; exact HP.out
        · rw [← e]; exact U
      case round =>
        clear U ro HP HO
        obtain ⟨A, B, C, x, cur, rfl, HAB, HP, HO, HB, U, ro⟩ := hrel
        have HLL : Hid ((A ++ x :: (B ++ C)).length = n) := by show _ = _; rw [HP.out.length_eq]; exact HN.out
        have END : Hid (A = [] ∨ (∃ A' y, A = A' ++ [y] ∧ y ≤ x) → ∀ q, ∃ (i' : Nat) (cur' : Array Value) (ys' : List Int), Value.int .i64 ((i : Int) + 1) = .int .i64 (i' : Nat) ∧ 1 ≤ i' ∧ i' ≤ n + 1 ∧ Hid (ys'.Perm xs) ∧ Hid ((ys'.take i').Pairwise (· ≤ ·)) ∧ UAt (wr.drewN q) g cur' ys' ∧ Off (· = g) w (wr.drewN q)) := fun hA q => by
          refine ⟨i + 1, cur, _, by go_num, by omega, by omega, HP.out, ?_, U.drewN q, off_drewN ro q⟩
          show List.Pairwise _ _
          have e : (A ++ x :: (B ++ C)).take (i + 1) = A ++ x :: B := by
            have e1 : A ++ x :: (B ++ C) = (A ++ x :: B) ++ C := by simp
            have e2 : (A ++ x :: B).length = i + 1 := by have := HAB.out; simp; omega
            rw [e1, ← e2, List.take_left']
            rfl
          rw [e]
          refine sorted_put HO.out HB.out ?_
          rcases hA with rfl | ⟨A', y, rfl, hy⟩
          · intro a ha; cases ha
          · exact sorted_last (List.pairwise_append.1 HO.out).1 hy
        rcases List.eq_nil_or_concat A with rfl | ⟨A', y, rfl⟩
        · have hj : decide ((([] : List Int).length : Int) > 0) = false := rfl
          have hj2 : ((([] : List Int).length : Nat) : Int) = 0 := rfl
          go_wp2
          go_quiet (fail)
          go_wp2
          go_roundw
          case rel => exact END.out (by simp) nq
          case measure => first | (simp [intOf]; done) | (simp [intOf]; omega)
        · rw [List.concat_eq_append] at *
          have elen : ((A' ++ [y]).length : Int) = (A'.length : Int) + 1 := by simp
          rw [elen]
          have c1 := U.cell (A'.length + 1) x (by simp)
          have c0 := U.cell A'.length y (by simp)
          have f1 := row_frozen U.row (A'.length + 1)
          have f0 := row_frozen U.row A'.length
          have hA1 : A'.length + 1 < n := by
            have := HLL.out
            simp at this
            omega
          have U2 : UAt wr g cur (A' ++ y :: x :: (B ++ C)) := by
            have e : A' ++ y :: x :: (B ++ C) = A' ++ [y] ++ x :: (B ++ C) := by simp
            rw [e]; exact U
          have HSW : Hid (∀ q, UAt (((wr.drewN q).setCell ⟨g, A'.length + 1, none⟩ (.int .u32 y)).setCell ⟨g, A'.length, none⟩ (.int .u32 x)) g ((cur.setIfInBounds (A'.length + 1) (.int .u32 y)).setIfInBounds A'.length (.int .u32 x)) (A' ++ x :: y :: (B ++ C)) ∧ Off (· = g) w (((wr.drewN q).setCell ⟨g, A'.length + 1, none⟩ (.int .u32 y)).setCell ⟨g, A'.length, none⟩ (.int .u32 x))) := fun q =>
            ⟨(U2.drewN q).swap, ((off_drewN ro q).trans (Off.of_setCell (F := (· = g)) _ _ _ rfl) (fun j e => Or.inl e)).trans (Off.of_setCell (F := (· = g)) _ _ _ rfl) (fun j e => Or.inl e)⟩
          clear U U2 elen ro
          obtain ⟨a, HA⟩ : ∃ a, Hid (A'.length = a) := ⟨_, rfl⟩
          rw [HA.out] at c1 c0 f1 f0 hA1 HSW ⊢
          have i1 : (0 : Int) ≤ (a : Int) + 1 := by omega
          have i2 : (a : Int) + 1 < (n : Int) := by omega
          have i3 : (a : Int) < (n : Int) := by omega
          have i4 : (a : Int) + 1 > 0 := by omega
          have i5 : IntKind.i64.wrap ((a : Int) + 1 - 1) = (a : Int) := by rw [IntKind.wrap_i64]; omega
          by_cases hxy : x < y
          · have hless := fun w => less_any x y true (decide_eq_true hxy) w
            go_wp2
            go_quiet (first | (go_at_call 72; refine Calls.quiet_of_same (hless _)))
            go_wp2
            clear END
            go_region
            all_goals go_wp2
            go_roundw
            case rel =>
              refine ⟨A', y :: B, C, x, _, by rw [HA.out], ?_, ?_, ?_, ?_, (HSW.out _).1, (HSW.out _).2⟩
              · have := HAB.out
                show _ = _
                simp at this ⊢
                omega
              · show List.Perm _ _
                refine List.Perm.trans ?_ HP.out
                have e : A' ++ [y] ++ x :: (B ++ C) = A' ++ y :: x :: (B ++ C) := by simp
                rw [e]
                exact List.Perm.append_left _ (List.Perm.swap _ _ _)
              · show List.Pairwise _ _
                have e : A' ++ y :: B = A' ++ [y] ++ B := by simp
                rw [e]; exact HO.out
              · intro b hb
                rcases List.mem_cons.1 hb with rfl | hb
                · omega
                · exact HB.out b hb
            case measure => first | (simp [intOf]; done) | (simp [intOf]; omega)
          · have hless := fun w => less_any x y false (decide_eq_false hxy) w
            go_wp2
            go_quiet (first | (go_at_call 72; refine Calls.quiet_of_same (hless _)))
            go_wp2
            go_roundw
            case rel => exact END.out (Or.inr ⟨A', y, rfl, by omega⟩) nq
            case measure => first | (simp [intOf]; done) | (simp [intOf]; omega)
    · have hlt' : ¬ (i : Int) < n := by omega
      have HF : Hid (ys.Perm xs ∧ ys.Pairwise (· ≤ ·)) := ⟨HP.out, by
        have := HO.out
        rw [List.take_of_length_le (by omega)] at this
        exact this⟩
      go_wp2
      go_end0
      exact ⟨rfl, ys, cur, HF.out.1, HF.out.2, U, ro⟩
theorem pdq_any {w : World} {g cap : Nat} {cur : Array Value} {xs : List Int} (h : UAt w g cur xs) (n : Nat) (hn : xs.length = n) (hs : n ≤ 12) (z : Int) :
    Calls Try.prog 70 #[.slice (some ⟨g, 0, none⟩) n cap, .int .i64 0, .int .i64 n, .int .i64 z] w fun e w' => Sorted w g xs e w' := by
  have hi := isort_any (cap := cap) h n hn (by omega)
  have h12 : (n : Int) ≤ 12 := by omega
  have hwn : IntKind.i64.wrap (n : Int) = n := by rw [IntKind.wrap_i64]; omega
  obtain ⟨PP, HPP⟩ : ∃ PP : Ending → World → Prop, Hid (PP = fun e w' => Sorted w g xs e w') := ⟨_, rfl⟩
  have HQ : Hid (∀ e w', Sorted w g xs e w' → e = .returned (.tuple #[]) ∧ PP (.returned (.tuple #[])) w') := fun e w' q => by rw [HPP.out]; have q' := q; obtain ⟨rfl, _⟩ := q'; exact ⟨rfl, q⟩
  rw [← HPP.out]
  clear HPP h
  go_enter Try.func70, Try.ntmps70
  go_wp2_with fail
  go_loopw [1, 2] (fun a b wr => a = .int .i64 0 ∧ b = .int .i64 n ∧ wr = w) (fun _ _ _ => 0)
  case atStart => exact ⟨rfl, rfl, rfl⟩
  case round =>
    obtain ⟨rfl, rfl, rfl⟩ := hrel
    go_wp2_with (go_at_call 77; refine hi.mono ?_; clear hi; intro e w2 hq; obtain ⟨he, hq2⟩ := HQ.out _ _ hq; obtain rfl := he; clear hq)
    first | go_end0 | refine bodyPost_ret (results_none rfl _ _ _) rfl ?_
    exact hq2
theorem len_any (n : Nat) (hs : n ≤ 12) (w : World) : Calls Try.prog 71 #[.int .u64 n] w fun e w' => e = .returned (.int .i64 (blen n)) ∧ w' = w := by
  have h1 := len64_any n w (by omega) (by omega)
  go_enter Try.func71, Try.ntmps71
  go_wp2_with (go_at_call 86; refine h1.mono ?_; clear h1; rintro e wb ⟨he, hww⟩; rw [hww]; clear hww wb; obtain rfl := he)
  go_ret
  exact ⟨rfl, rfl⟩
theorem sort_any {w : World} {g cap : Nat} {cur : Array Value} {xs : List Int} (h : UAt w g cur xs) (n : Nat) (hn : xs.length = n) (hs : n ≤ 12) :
    Calls Try.prog 61 #[.slice (some ⟨g, 0, none⟩) n cap] w fun e w' => Sorted w g xs e w' := by
  have hp := pdq_any (cap := cap) h n hn hs (blen n)
  have hl := len_any n hs w
  have hcv : IntKind.u64.wrap (n : Int) = n := by rw [IntKind.wrap_u64]; omega
  obtain ⟨PP, HPP⟩ : ∃ PP : Ending → World → Prop, Hid (PP = fun e w' => Sorted w g xs e w') := ⟨_, rfl⟩
  have HQ : Hid (∀ e w', Sorted w g xs e w' → e = .returned (.tuple #[]) ∧ PP (.returned (.tuple #[])) w') := fun e w' q => by rw [HPP.out]; have q' := q; obtain ⟨rfl, _⟩ := q'; exact ⟨rfl, q⟩
  rw [← HPP.out]
  clear HPP h
  go_enter Try.func61, Try.ntmps61
  go_wp2_with (first
    | (go_at_call 71; refine hl.mono ?_; clear hl; rintro e wb ⟨he, hww⟩; rw [hww]; clear hww wb; obtain rfl := he)
    | (go_at_call 70; refine hp.mono ?_; clear hp; intro e w2 hq; obtain ⟨he, hq2⟩ := HQ.out _ _ hq; obtain rfl := he; clear hq))
  first | go_end0 | refine bodyPost_ret (results_none rfl _ _ _) rfl ?_
  exact hq2
end Go.Proofs.Ytdlllnkcjfpajaa.U4
namespace Go.Proofs.Ytdlllnkcjfpajaa
open Go.ChangeShapes Go.WideShapes Go.ChangeAt Go.RowKit
set_option linter.unusedVariables false
set_option linter.unusedSimpArgs false
set_option maxRecDepth 20000
def WrI (hs : List Hm) (i : Nat) (v : Int × Int) : Prop := ∃ h, hs[i]? = some h ∧ v.1 ∈ h.p.ws ∧ v.2 = h.p.co
def WrU (hs : List Hm) (i k : Nat) (v : Int × Int) (j : Nat) : Prop := (j < i ∧ WrI hs j v) ∨ (j = i ∧ ∃ h, hs[i]? = some h ∧ v.1 ∈ h.p.ws.take k ∧ v.2 = h.p.co)
def Uni (hs : List Hm) : Prop := ∀ i j v, WrI hs i v → WrI hs j v → i = j
def FnU (hs : List Hm) (f : Int × Int → Option Value) (i k : Nat) : Prop := ∀ v x, f v = some x ↔ ∃ j : Nat, x = .int .i64 j ∧ WrU hs i k v j
def Fn (hs : List Hm) (f : Int × Int → Option Value) : Prop := ∀ v x, f v = some x ↔ ∃ j : Nat, x = .int .i64 j ∧ WrI hs j v
theorem FnU.none (hs : List Hm) : FnU hs (fun _ => none) 0 0 := fun v x => ⟨fun h => (by cases h), fun ⟨j, _, h⟩ => by
  rcases h with ⟨h, _⟩ | ⟨_, h', _, h2, _⟩
  · omega
  · simp at h2⟩
theorem FnU.next {hs : List Hm} {f : Int × Int → Option Value} {i : Nat} {h : Hm} (he : hs[i]? = some h) (hf : FnU hs f i h.p.ws.length) : FnU hs f (i + 1) 0 := fun v x => by
  rw [hf v x]
  refine ⟨fun ⟨j, e, q⟩ => ⟨j, e, ?_⟩, fun ⟨j, e, q⟩ => ⟨j, e, ?_⟩⟩
  · rcases q with ⟨q, q2⟩ | ⟨rfl, h', q1, q2, q3⟩
    · exact Or.inl ⟨by omega, q2⟩
    · refine Or.inl ⟨by omega, h', q1, ?_, q3⟩
      rw [he] at q1; cases q1
      rwa [List.take_length] at q2
  · rcases q with ⟨q, q2⟩ | ⟨_, _, _, q2, _⟩
    · by_cases ej : j < i
      · exact Or.inl ⟨ej, q2⟩
      · obtain rfl : j = i := by omega
        obtain ⟨h', q1, q3, q4⟩ := q2
        rw [he] at q1; cases q1
        exact Or.inr ⟨rfl, _, he, by rw [List.take_length]; exact q3, q4⟩
    · simp at q2
theorem FnU.step {hs : List Hm} {f : Int × Int → Option Value} {i k : Nat} {h : Hm} {p : Int} (hu : Uni hs) (he : hs[i]? = some h) (hp : h.p.ws[k]? = some p) (hf : FnU hs f i k) : FnU hs (kput f (p, h.p.co) (.int .i64 i)) i (k + 1) := fun v x => by
  have hk := (List.getElem?_eq_some_iff.1 hp)
  obtain ⟨hkl, hkp⟩ := hk
  have htk : h.p.ws.take (k + 1) = h.p.ws.take k ++ [p] := by rw [List.take_succ_eq_append_getElem hkl, hkp]
  unfold kput
  by_cases e : v = (p, h.p.co)
  · rw [if_pos e]
    have hw : WrI hs i v := ⟨h, he, by rw [e]; exact List.mem_of_getElem? hp, by rw [e]⟩
    refine ⟨fun q => ⟨i, (Option.some.inj q).symm, Or.inr ⟨rfl, h, he, by rw [htk, e]; simp, by rw [e]⟩⟩, fun ⟨j, e1, q⟩ => ?_⟩
    obtain rfl : j = i := by
      rcases q with ⟨_, q⟩ | ⟨q, _⟩
      · exact hu _ _ _ q hw
      · exact q
    rw [e1]
  · rw [if_neg e, hf v x]
    refine ⟨fun ⟨j, e1, q⟩ => ⟨j, e1, ?_⟩, fun ⟨j, e1, q⟩ => ⟨j, e1, ?_⟩⟩
    · rcases q with q | ⟨rfl, h', q1, q2, q3⟩
      · exact Or.inl q
      · rw [he] at q1; cases q1
        exact Or.inr ⟨rfl, _, he, by rw [htk]; exact List.mem_append_left _ q2, q3⟩
    · rcases q with q | ⟨rfl, h', q1, q2, q3⟩
      · exact Or.inl q
      · rw [he] at q1; cases q1
        rw [htk] at q2
        rcases List.mem_append.1 q2 with q2 | q2
        · exact Or.inr ⟨rfl, _, he, q2, q3⟩
        · simp at q2
          exact absurd (Prod.ext q2 q3) e
theorem FnU.whole {hs : List Hm} {f : Int × Int → Option Value} {n : Nat} (hn : hs.length ≤ n) (hf : FnU hs f n 0) : Fn hs f := fun v x => by
  rw [hf v x]
  refine ⟨fun ⟨j, e, q⟩ => ⟨j, e, ?_⟩, fun ⟨j, e, q⟩ => ⟨j, e, ?_⟩⟩
  · rcases q with ⟨_, q⟩ | ⟨_, _, _, q, _⟩
    · exact q
    · simp at q
  · refine Or.inl ⟨?_, q⟩
    obtain ⟨h, q1, _⟩ := q
    have := (List.getElem?_eq_some_iff.1 q1).1
    omega
theorem WrI.ok {hs : List Hm} (hf : ∀ h ∈ hs, h.p.Fit) {j : Nat} {v : Int × Int} (h : WrI hs j v) : seenok v := by
  obtain ⟨h, h1, h2, h3⟩ := h
  have F := hf h (List.mem_of_getElem? h1)
  have a := F.ws _ h2
  have b := F.co
  exact ⟨WalkArith.wf_u16 a, by rw [h3]; exact WalkArith.wf_u32 b⟩
theorem WrI.lt {hs : List Hm} {j : Nat} {v : Int × Int} (h : WrI hs j v) : j < hs.length := by
  obtain ⟨h, h1, _⟩ := h
  exact (List.getElem?_eq_some_iff.1 h1).1
theorem nodup_le : ∀ {l m : List Int}, l.Nodup → (∀ x ∈ l, x ∈ m) → l.length ≤ m.length
  | [], _, _, _ => Nat.zero_le _
  | a :: r, m, h, hs => by
    obtain ⟨h1, h2⟩ := List.nodup_cons.1 h
    have ha := hs a (by simp)
    have := nodup_le (l := r) (m := m.erase a) h2 (fun x hx => by
      have hne : x ≠ a := fun e => h1 (e ▸ hx)
      exact (List.mem_erase_of_ne hne).2 (hs x (by simp [hx])))
    rw [List.length_erase_of_mem ha] at this
    have : 0 < m.length := List.length_pos_of_mem ha
    simp
    omega
structure Told (hs : List Hm) (f : Int × Int → Option Value) (left : Int × Int → Bool) (G : Int → List Int) : Prop where
  mem : ∀ p t, seenok (p, t) → (t ∈ G p ↔ (f (p, t)).isSome = true ∧ left (p, t) = false)
  nod : ∀ p, E44.ok p → (G p).Nodup
  ok : ∀ p t, E44.ok p → t ∈ G p → seenok (p, t)
theorem Told.start (hs : List Hm) (f : Int × Int → Option Value) : Told hs f (fun x => (f x).isSome) (fun _ => []) where
  mem p t _ := ⟨fun h => by simp at h, fun ⟨h1, h2⟩ => by rw [h1] at h2; cases h2⟩
  nod _ _ := List.nodup_nil
  ok _ _ _ h := by simp at h
theorem Told.step {hs : List Hm} {f : Int × Int → Option Value} {left : Int × Int → Bool} {G : Int → List Int} (h : Told hs f left G) {v : Int × Int} {x : Value} (hv : seenok v) (hl : left v = true) (hf : f v = some x) :
    Told hs f (fun y => left y && !decide (y = v)) (GU.gput G v.1 (G v.1 ++ [v.2])) where
  mem p t ho := by
    unfold GU.gput
    by_cases e : p = v.1
    · rw [if_pos e]
      have := h.mem v.1 t (by rw [← e]; exact ho)
      by_cases e2 : t = v.2
      · have e3 : ((p, t) : Int × Int) = v := Prod.ext e e2
        rw [e3, hf, hl]
        simp [e2]
      · have e3 : ((p, t) : Int × Int) ≠ v := fun q => e2 (by rw [← q])
        have e4 : ((v.1, t) : Int × Int) = (p, t) := by rw [e]
        rw [e4] at this
        simp [e3, e2, this]
    · rw [if_neg e]
      have e3 : ((p, t) : Int × Int) ≠ v := fun q => e (by rw [← q])
      rw [h.mem p t ho]; simp [e3]
  nod p hp := by
    unfold GU.gput
    by_cases e : p = v.1
    · rw [if_pos e]
      refine List.nodup_append.2 ⟨h.nod _ (e ▸ hp), by simp, fun a ha b hb => ?_⟩
      simp at hb; subst hb
      intro q; subst q
      have := (h.mem v.1 v.2 hv).1 ha
      rw [show ((v.1, v.2) : Int × Int) = v from rfl, hl] at this
      cases this.2
    · rw [if_neg e]; exact h.nod p hp
  ok p t hp ht := by
    unfold GU.gput at ht
    by_cases e : p = v.1
    · rw [if_pos e] at ht
      rcases List.mem_append.1 ht with q | q
      · have := h.ok v.1 t (e ▸ hp) q
        rw [e]; exact this
      · simp at q; subst q; rw [e]; exact hv
    · rw [if_neg e] at ht; exact h.ok p t hp ht
theorem strict_of : ∀ {l : List Int}, l.Pairwise (· ≤ ·) → l.Nodup → l.Pairwise (· < ·)
  | [], _, _ => List.Pairwise.nil
  | a :: r, h, k => by
    obtain ⟨h1, h2⟩ := List.pairwise_cons.1 h
    obtain ⟨k1, k2⟩ := List.nodup_cons.1 k
    refine List.pairwise_cons.2 ⟨fun b hb => ?_, strict_of h2 k2⟩
    have := h1 b hb
    have : a ≠ b := fun e => k1 (e ▸ hb)
    omega
def UR (w : World) (u : Value) (ys : List Int) : Prop := ∃ b cap cur, u = .slice (some ⟨b, 0, none⟩) ys.length cap ∧ U4.UAt w b cur ys
theorem UR.off {F : Nat → Prop} {w w' : World} {u : Value} {ys : List Int} (h : UR w u ys) (ho : Off F w w') (hF : ∀ b, u.ownBlock = some b → ¬ F b) : UR w' u ys := by
  obtain ⟨b, cap, cur, e, hu⟩ := h
  exact ⟨b, cap, cur, e, hu.off ho (hF b (by rw [e]; rfl))⟩
theorem UR.lt {w : World} {u : Value} {ys : List Int} (h : UR w u ys) : ∀ b, u.ownBlock = some b → b < w.heap.size := fun b hb => by
  obtain ⟨b', cap, cur, rfl, hu⟩ := h
  simp [Value.ownBlock] at hb; subst hb
  exact hu.row.lt
theorem UR.cells {w : World} {u : Value} {ys : List Int} (h : UR w u ys) : ∀ b, u.ownBlock = some b → ∃ cs, w.heap[b]? = some (.cells cs 35 (0, 0)) := fun b hb => by
  obtain ⟨b', cap, cur, rfl, hu⟩ := h
  simp [Value.ownBlock] at hb; subst hb
  exact ⟨_, hu.row⟩
theorem GU.Nums.ur {w : World} {base : Nat} {u : Value} {ys : List Int} (h : GU.Nums w base u ys) (hne : ys ≠ []) : UR w u ys := by
  rcases h.2 with ⟨rfl, h2⟩ | ⟨g, cap, cur, rfl, hb, hc, hle, hcap, hsz, ht⟩
  · exfalso; simp at h2; exact hne h2
  · refine ⟨g, cap, cur, by simp, ⟨hc, ?_⟩⟩
    rw [List.length_map, Nat.mul_one] at ht
    rw [ht, GU.flat_uO]; rfl
def VAt (w : World) (mc nc : Nat) (F : Int → Option Value) (G : Int → List Int) : Prop :=
  KMap E44 w mc nc F ∧ ∀ x, E44.ok x → (F x = none → G x = []) ∧ ∀ u, F x = some u → UR w u (G x)
theorem VAt.below {w w' : World} {mc nc : Nat} {F : Int → Option Value} {G : Int → List Int} (h : VAt w mc nc F G) (hb : Below w.heap.size w w') : VAt w' mc nc F G :=
  ⟨h.1.below hb, fun x hx => ⟨(h.2 x hx).1, fun u hu => ((h.2 x hx).2 u hu).off (F := fun _ => False) (Off.of_below hb) (fun _ _ q => q)⟩⟩
theorem VAt.off {B : Nat → Prop} {w w' : World} {mc nc : Nat} {F : Int → Option Value} {G : Int → List Int} (h : VAt w mc nc F G) (ho : Off B w w') (hm : ¬ B mc) (hB : ∀ j cs t x, B j → w.heap[j]? = some (.cells cs t x) → False) : VAt w' mc nc F G :=
  ⟨h.1.off ho hm, fun x hx => ⟨(h.2 x hx).1, fun u hu => by
    have hn := (h.2 x hx).2 u hu
    exact hn.off ho (fun b hb q => by obtain ⟨cs, hc⟩ := hn.cells b hb; exact hB _ _ _ _ q hc)⟩⟩
theorem Told.small {hs : List Hm} {f : Int × Int → Option Value} {left : Int × Int → Bool} {G : Int → List Int} (h : Told hs f left G) (hf : Fn hs f) (p : Int) (hp : E44.ok p) : (G p).length ≤ hs.length := by
  have := nodup_le (l := G p) (m := hs.map fun h => h.p.co) (h.nod p hp) (fun t ht => by
    have ho := h.ok p t hp ht
    have := ((h.mem p t ho).1 ht).1
    obtain ⟨x, hx⟩ := Option.isSome_iff_exists.1 this
    obtain ⟨j, _, h', q1, _, q3⟩ := (hf _ _).1 hx
    exact List.mem_map.2 ⟨h', List.mem_of_getElem? q1, q3.symm⟩)
  simpa using this
theorem Told.all {hs : List Hm} {f : Int × Int → Option Value} {left : Int × Int → Bool} {G : Int → List Int} (h : Told hs f left G) (hf : Fn hs f) (hfit : ∀ h ∈ hs, h.p.Fit) (hl : ∀ x, seenok x → left x = false) (p : Int) (hp : E44.ok p) : (∀ t, t ∈ G p ↔ ∃ j, WrI hs j (p, t)) ∧ (G p).length ≤ hs.length := by
  have h1 : ∀ t, t ∈ G p ↔ ∃ j, WrI hs j (p, t) := fun t => by
    constructor
    · intro ht
      have ho := h.ok p t hp ht
      have := ((h.mem p t ho).1 ht).1
      obtain ⟨x, hx⟩ := Option.isSome_iff_exists.1 this
      obtain ⟨j, _, hj⟩ := (hf _ _).1 hx
      exact ⟨j, hj⟩
    · rintro ⟨j, hj⟩
      have ho := hj.ok hfit
      exact (h.mem p t ho).2 ⟨by rw [(hf _ _).2 ⟨j, rfl, hj⟩]; rfl, hl _ ho⟩
  refine ⟨h1, ?_⟩
  have := nodup_le (l := G p) (m := hs.map fun h => h.p.co) (h.nod p hp) (fun t ht => by
    obtain ⟨j, h', q1, _, q3⟩ := (h1 t).1 ht
    exact List.mem_map.2 ⟨h', List.mem_of_getElem? q1, q3.symm⟩)
  simpa using this
theorem yields_build {P : Program} {ops : Array Oper} {S : World → Prop} {o : Oper} {a : Act} (hw : Region.wanted o (yielded ops a.tmps) = true) (t : TypeId) (parts : Array (Nat × Operand)) (ho : o.op = .build t parts)
    (vs : List (Nat × Value)) (hv : (parts.toList.map fun (i, x) => (i, a.eval x)) = vs) (cs : Array Value) (hb : P.built t vs = some cs) : YieldsIf P ops S o (.agg cs) a := by
  refine Or.inl ⟨hw, fun w hS => ?_⟩
  have e : (parts.map fun (i, x) => (i, a.eval x)).toList = vs := by rw [← hv, Array.toList_map]
  unfold execOp
  simp only [ho, Sem.run_bind, run_build w t _ cs (by rw [e]; exact hb), Result.andThen_ok, Sem.run_pure]
theorem yields_cells {P : Program} {ops : Array Oper} {S : World → Prop} {o : Oper} {a : Act} (hw : Region.wanted o (yielded ops a.tmps) = true) (ty : TypeId) (x : Operand) (ho : o.op = .load ty x)
    (g : Nat) (hx : a.eval x = .pointer (some ⟨g, 0, none⟩)) (t : TypeId) (cs : Array Value) (hg : ∀ w, S w → Row w g cs t) (n : Nat) {d : TypeDesc}
    (hu : P.underlying ty = some d) (hd : (match d with | .struct _ | .array _ _ => true | _ => false) = true) (hi : (P.info? ty).map (·.size) = some n) (hn : cs.size = n) : YieldsIf P ops S o (.agg cs) a := by
  refine Or.inl ⟨hw, fun w hS => ?_⟩
  unfold execOp
  simp only [ho, hx, Instr.loadAt, Instr.sureAddr, Sem.run_bind, Sem.run_pure, Result.andThen_ok, run_loadVar_row w g t ty cs (0, 0) _ (hg w hS) hu hd (by rw [hi, hn])]
theorem step_of {P : Program} {ops : Array Oper} {o : Oper} {a : Act} {w : World} {K : Act → World → Prop} {Q : Exit → Act → World → Prop} {E : Prop} (hgd : o.guard = none) (h : Oper.wp P o a w K Q) :
    if Region.wanted o (yielded ops a.tmps) = true then Oper.wp P o a w K Q else E := by
  have hw : Region.wanted o (yielded ops a.tmps) = true := by simp [Region.wanted, hgd]
  rw [if_pos hw]; exact h
theorem wp_update {P : Program} {o : Oper} {a : Act} {w : World} {K : Act → World → Prop} {Q : Exit → Act → World → Prop} (t : TypeId) (m x v : Operand) (ho : o.op = .mapUpdate t m x v)
    (mv xv vv : Value) (hm : a.eval m = mv) (hx : a.eval x = xv) (hv : a.eval v = vv) (w' : World) (hr : (Instr.mapUpdate t mv xv vv).run P w = .ok () w') (h : K (a.put o.dst undef) w') : Oper.wp P o a w K Q := by
  unfold Oper.wp
  simp [execOp, ho, hm, hx, hv, hr, Result.andThen]
  exact h
theorem yields_lookup {P : Program} {ops : Array Oper} {S : World → Prop} {o : Oper} {a : Act} (hw : Region.wanted o (yielded ops a.tmps) = true) (t : TypeId) (m x : Operand) (ok : Bool) (ho : o.op = .lookup t m x ok)
    (mv xv v : Value) (hm : a.eval m = mv) (hx : a.eval x = xv) (hr : ∀ w, S w → (Instr.lookup t mv xv ok).run P w = .ok v w) : YieldsIf P ops S o v a := by
  refine Or.inl ⟨hw, fun w hS => ?_⟩
  unfold execOp
  simp only [ho, hm, hx, Sem.run_bind, hr w hS, Result.andThen_ok, Sem.run_pure]
end Go.Proofs.Ytdlllnkcjfpajaa
