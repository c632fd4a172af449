/-
  A turn as the document tells it (who stands in the line), and as it lies in memory; what each call answers, and makes of it.
-/
import Derived.Test.YtmnbfcmamhinbaaArr
import Derived.Test.YtmnbfcmamhinbaaLst
import Derived.Shelf.Slices.Delete
import Derived.Sort.OwnSortedInts
import Derived.Great.BuildSlice
namespace Go.Proofs.Ytmnbfcmamhinbaa.Tu
open Go.ChangeShapes Go.WideShapes Go.ChangeAt Go.RowKit
open Go.Deep Go.Shelf
set_option linter.unusedVariables false
set_option linter.unusedSimpArgs false

/-- Numbers as cells. -/
def is (xs : List Int) : List Value := xs.map (Value.int .i64)
theorem is_length (xs : List Int) : (is xs).length = xs.length := by simp [is]
theorem info3 : (Try.prog.info? 3).map (fun i => (i.zero, i.size, i.bytes)) = some (some (.int .i64 0), 1, 8) := by kernel_rfl
/-- A list of numbers in memory of its own. -/
def Own (w : World) (base : Nat) (v : Value) (xs : List Int) : Prop := w.ownsRow base 3 1 v xs.length (is xs)
theorem Own.form {w : World} {base : Nat} {v : Value} {xs : List Int} (h : Own w base v xs) : ∃ oa cap, v = .slice oa xs.length cap := by
  rcases h.2 with ⟨rfl, h2⟩ | ⟨g, cap, cur, rfl, _⟩
  · exact ⟨none, 0, by rw [h2]⟩
  · exact ⟨_, cap, rfl⟩
theorem Own.blk {w : World} {base : Nat} {v : Value} {xs : List Int} (h : Own w base v xs) (hn : 0 < xs.length) : ∃ g cap, v = .slice (some ⟨g, 0, none⟩) xs.length cap ∧ base ≤ g ∧ xs.length ≤ cap ∧ cap ≤ maxLen := by
  rcases h.2 with ⟨rfl, h2⟩ | ⟨g, cap, cur, rfl, hb, _, h1, h2, _⟩
  · omega
  · exact ⟨g, cap, rfl, hb, h1, h2⟩
theorem Own.cell {w : World} {base g n cap : Nat} {xs : List Int} (h : Own w base (.slice (some ⟨g, 0, none⟩) n cap) xs) (i : Nat) (x : Int) (hi : xs[i]? = some x) : w.cell? ⟨g, i, none⟩ = some (.int .i64 x) ∧ w.frozen? ⟨g, i, none⟩ = false := by
  rcases h.2 with ⟨q, _⟩ | ⟨g', c', cur, q, hb, hc, hle, hm, hsz, htk⟩
  · cases q
  · cases q
    have r : Row w g cur 3 := hc
    have hil := (List.getElem?_eq_some_iff.1 hi).1
    refine ⟨row_at r _ _ ?_, row_frozen r _⟩
    have e : (is xs)[i]? = some (.int .i64 x) := by simp [is, hi]
    rw [← htk, Nat.mul_one, List.getElem?_take, if_pos hil] at e
    simpa using e
theorem Own.off {F : Nat → Prop} {w w' : World} {base : Nat} {v : Value} {xs : List Int} (h : Own w base v xs) (ho : Off F w w') (hF : ∀ k, base ≤ k → ¬ F k) : Own w' base v xs := by
  have hl := World.ownsRow.lt h
  obtain ⟨h1, h2⟩ := h
  refine ⟨h1, ?_⟩
  rcases h2 with h2 | ⟨g, cap, cur, rfl, hb', hc, rest⟩
  · exact Or.inl h2
  · have := hl g (by simp [Value.ownBlock])
    exact Or.inr ⟨g, cap, cur, rfl, hb', (ho.block g this.2 (hF g hb')).trans hc, rest⟩
theorem Own.below {w w' : World} {base : Nat} {v : Value} {xs : List Int} (h : Own w base v xs) (hb : Below w.heap.size w w') : Own w' base v xs := h.off (F := fun _ => False) (Off.of_below hb) fun _ _ q => q
theorem Own.other {w : World} {base : Nat} {v : Value} {xs : List Int} (h : Own w base v xs) (t o : Nat) (x : Value) (ht : t < base) : Own (w.setCell ⟨t, o, none⟩ x) base v xs := h.off (F := (· = t)) (Off.of_setCell _ _ _ rfl) fun k hk e => by omega
/-- A turn in memory. -/
structure TAt (w : World) (t : Nat) (v : Value) (xs : List Int) : Prop where
  row : Row w t #[v] 78
  own : Own w (t + 1) v xs
  one : xs.Nodup
  small : xs.length ≤ 1000
theorem TAt.off {F : Nat → Prop} {w w' : World} {t : Nat} {v : Value} {xs : List Int} (c : TAt w t v xs) (ho : Off F w w') (hF : ∀ k, t ≤ k → ¬ F k) : TAt w' t v xs :=
  { c with row := c.row.off ho (hF _ (Nat.le_refl _)), own := c.own.off ho (fun k hk => hF k (by omega)) }
theorem TAt.below {w w' : World} {t : Nat} {v : Value} {xs : List Int} (c : TAt w t v xs) (hb : Below w.heap.size w w') : TAt w' t v xs := c.off (F := fun _ => False) (Off.of_below hb) fun _ _ q => q
/-- The blocks of a turn. -/
def foot (t : Nat) (v : Value) (k : Nat) : Prop := k = t ∨ v.ownBlock = some k
theorem TAt.foot_le {w : World} {t : Nat} {v : Value} {xs : List Int} (c : TAt w t v xs) {k : Nat} (h : foot t v k) : t ≤ k := by
  rcases h with rfl | h
  · exact Nat.le_refl _
  · have := (World.ownsRow.lt c.own k h).1; omega
theorem TAt.foot_not {w : World} {t : Nat} {v : Value} {xs : List Int} (c : TAt w t v xs) {X T : Nat} {cs : Array Value} (r : Row w X cs T) (h1 : ¬ T = 3) (h2 : ¬ T = 78) : ¬ foot t v X := by
  rintro (rfl | h)
  · have := c.row
    unfold Row at this r
    rw [this] at r
    injection r with r
    injection r with _ r
    exact h2 r.symm
  · rcases c.own.2 with ⟨rfl, _⟩ | ⟨g, cap, cur, rfl, hb, hc, _⟩
    · simp [Value.ownBlock] at h
    · simp [Value.ownBlock] at h
      subst h
      unfold Row at r
      rw [hc] at r
      injection r with r
      injection r with _ r
      exact h1 r.symm
theorem new_any (w : World) : Calls Try.prog 24 #[] w fun e w' => ∃ t, e = .returned (.pointer (some ⟨t, 0, none⟩)) ∧ w.heap.size ≤ t ∧ TAt w' t (.slice none 0 0) [] ∧ Below w.heap.size w w' := by
  have r1 : Row (w.alloc (.cells #[.slice none 0 0] 78)) w.heap.size #[.slice none 0 0] 78 := Row.new _ _ _
  have b1 : Below w.heap.size w (w.alloc (.cells #[.slice none 0 0] 78)) := (Below.refl _ _).alloc (Nat.le_refl _) _
  have HC : Hid (TAt (w.alloc (.cells #[.slice none 0 0] 78)) w.heap.size (.slice none 0 0) []) := { row := r1, own := ⟨rfl, Or.inl ⟨rfl, rfl⟩⟩, one := List.nodup_nil, small := by simp }
  have HB : Hid _ := b1
  clear r1 b1
  go_enter Try.func24, Try.ntmps24
  go_wp2
  go_ret
  exact ⟨w.heap.size, rfl, Nat.le_refl _, HC.out, HB.out⟩
/-- Where one stands; -1: nowhere. -/
def idx (xs : List Int) (x : Int) : Int := match xs.findIdx? (fun y => decide (y = x)) with | some i => (i : Int) | none => -1
theorem idx_none {xs : List Int} {x : Int} (h : ¬ x ∈ xs) : idx xs x = -1 := by
  unfold idx
  have : xs.findIdx? (fun y => decide (y = x)) = none := by
    rw [List.findIdx?_eq_none_iff]
    intro y hy
    simp
    rintro rfl
    exact h hy
  rw [this]
theorem idx_some {xs : List Int} {x : Int} (h : x ∈ xs) : ∃ A B, xs = A ++ x :: B ∧ ¬ x ∈ A ∧ idx xs x = (A.length : Int) := by
  cases hi : xs.findIdx? (fun y => decide (y = x)) with
  | none =>
    rw [List.findIdx?_eq_none_iff] at hi
    have := hi x h
    simp at this
  | some i =>
    obtain ⟨hl, hp, hno⟩ := List.findIdx?_eq_some_iff_getElem.1 hi
    simp at hp
    have e : xs = xs.take i ++ x :: xs.drop (i + 1) := by
      have := List.take_append_drop i xs
      rw [List.drop_eq_getElem_cons hl, hp] at this
      exact this.symm
    refine ⟨xs.take i, xs.drop (i + 1), e, fun hm => ?_, by unfold idx; rw [hi, List.length_take]; simp <;> omega⟩
    obtain ⟨k, hk, hkx⟩ := List.getElem_of_mem hm
    rw [List.length_take] at hk
    have := hno k (by omega)
    rw [List.getElem_take] at hkx
    simp [hkx] at this
theorem index_any {w : World} {base : Nat} {v : Value} {xs : List Int} (c : Own w base v xs) (x : Int) (hs : xs.length ≤ 1000) : Calls Try.prog 38 #[v, .int .i64 x] w fun e w' => e = .returned (.int .i64 (idx xs x)) ∧ w' = w := by
  obtain ⟨oa, cap, rfl⟩ := c.form
  obtain ⟨N, HN⟩ : ∃ N, Hid (xs.length = N) := ⟨_, rfl⟩
  rw [HN.out] at hs c ⊢
  have HCL : Hid (∀ i, i < N → ∃ g y, oa = some ⟨g, 0, none⟩ ∧ xs[i]? = some y ∧ w.cell? ⟨g, i, none⟩ = some (.int .i64 y)) := fun i hi => by
    obtain ⟨g, cp, e, _⟩ := c.blk (by rw [HN.out]; omega)
    cases e
    have hx := List.getElem?_eq_getElem (by rw [HN.out]; exact hi : i < xs.length)
    exact ⟨g, _, rfl, hx, (c.cell i _ hx).1⟩
  have HNO : Hid (∀ j, j ≤ N → (∀ (i : Nat) (y : Int), i < j → xs[i]? = some y → ¬ y = x) → (j = N → idx xs x = -1) ∧ (xs[j]? = some x → idx xs x = j)) := fun j hj hno => by
    constructor
    · intro e
      refine idx_none fun hm => ?_
      obtain ⟨i, hi, rfl⟩ := List.getElem_of_mem hm
      exact hno i _ (by rw [e, ← HN.out]; exact hi) (List.getElem?_eq_getElem hi) rfl
    · intro hx
      unfold idx
      obtain ⟨hl, hjo⟩ := List.getElem?_eq_some_iff.1 hx
      have : xs.findIdx? (fun y => decide (y = x)) = some j := by
        rw [List.findIdx?_eq_some_iff_getElem]
        refine ⟨hl, by rw [hjo]; simp, fun i hi => ?_⟩
        have := hno i _ hi (List.getElem?_eq_getElem (by omega))
        simpa using this
      rw [this]
  clear c
  go_enter Try.func38, Try.ntmps38
  go_wp2_with fail
  go_loopw [8] (fun i wr => ∃ j : Nat, i = .int .i64 j ∧ j ≤ N ∧ wr = w ∧ Hid (∀ (i : Nat) (y : Int), i < j → xs[i]? = some y → ¬ y = x)) (fun i _ => N - (intOf i).toNat)
  case atStart => exact ⟨0, rfl, by omega, rfl, fun i o h => absurd h (by omega)⟩
  case round =>
    obtain ⟨j, rfl, hj, rfl, HM⟩ := hrel
    by_cases hjn : j < N
    · have hjn' : (j : Int) < (N : Int) := by omega
      obtain ⟨g, y, hoa, hy, hcell⟩ := HCL.out j hjn
      subst hoa
      by_cases hxy : x = y
      · subst hxy
        have HE : Hid (idx xs x = j) := (HNO.out j hj HM.out).2 hy
        go_wp2
        go_ret
        exact ⟨by rw [HE.out]; rfl, rfl⟩
      · have HY : Hid _ := hy
        clear hy
        go_wp2
        go_roundw
        case rel => exact ⟨j + 1, by go_num, by omega, by first | rfl | trivial, fun i o hi ho => by
            by_cases q : i < j
            · exact HM.out i o q ho
            · obtain rfl : i = j := by omega
              have := HY.out
              rw [ho] at this
              cases this
              exact fun h => hxy h.symm⟩
        case measure => simp [intOf]; omega
    · have hjn' : ¬ (j : Int) < (N : Int) := by omega
      obtain rfl : j = N := by omega
      have HE : Hid (idx xs x = -1) := (HNO.out j hj HM.out).1 rfl
      go_wp2
      go_ret
      exact ⟨by rw [HE.out]; rfl, rfl⟩
theorem contains_any {w : World} {base : Nat} {v : Value} {xs : List Int} (c : Own w base v xs) (x : Int) (hs : xs.length ≤ 1000) (b : Bool) (hb : decide (x ∈ xs) = b) : Calls Try.prog 37 #[v, .int .i64 x] w fun e w' => e = .returned (.bool b) ∧ w' = w := by
  have hi := index_any c x hs
  by_cases hm : x ∈ xs
  · obtain ⟨A, B, _, _, e⟩ := idx_some hm
    rw [e] at hi
    obtain rfl : b = true := by rw [← hb]; simp [hm]
    have i3 : (A.length : Int) ≥ 0 := by omega
    clear hb e
    go_enter Try.func37, Try.ntmps37
    go_wp2_with (go_at_call 38; refine hi.mono ?_; clear hi; rintro e wb ⟨he, hww⟩; rw [hww]; clear hww wb; obtain rfl := he)
    go_ret
    exact ⟨rfl, rfl⟩
  · rw [idx_none hm] at hi
    obtain rfl : b = false := by rw [← hb]; simp [hm]
    clear hb
    go_enter Try.func37, Try.ntmps37
    go_wp2_with (go_at_call 38; refine hi.mono ?_; clear hi; rintro e wb ⟨he, hww⟩; rw [hww]; clear hww wb; obtain rfl := he)
    go_ret
    exact ⟨rfl, rfl⟩
/-- Whether one is the first. -/
def hasF (xs : List Int) (x : Int) : Bool := match xs with | [] => false | y :: _ => y == x
theorem has_any {w : World} {t : Nat} {v : Value} {xs : List Int} (c : TAt w t v xs) (x : Int) : Calls Try.prog 30 #[.pointer (some ⟨t, 0, none⟩), .int .i64 x] w fun e w' => e = .returned (.bool (hasF xs x)) ∧ w' = w := by
  have c0 := row_at c.row 0 _ rfl
  cases xs with
  | nil =>
    obtain ⟨oa, cap, rfl⟩ := c.own.form
    go_enter Try.func30, Try.ntmps30
    go_wp2
    go_ret
    exact ⟨rfl, rfl⟩
  | cons y r =>
    obtain ⟨g, cap, rfl, _⟩ := c.own.blk (by simp)
    have c1 := (c.own.cell 0 y rfl).1
    obtain ⟨N, HN⟩ : ∃ N, Hid ((y :: r).length = N) := ⟨_, rfl⟩
    have hN : (0 : Int) < (N : Int) := by have := HN.out; simp at this; omega
    have hN2 : (N : Int) > 0 := by omega
    rw [HN.out] at c0
    go_enter Try.func30, Try.ntmps30
    go_wp2
    go_ret
    exact ⟨rfl, rfl⟩
/-- The line behind an Ask. -/
def askL (xs : List Int) (x : Int) : List Int := if x ∈ xs then xs else xs ++ [x]
/-- What Ask leaves. -/
def Asked (w : World) (t : Nat) (v : Value) (xs : List Int) (x : Int) (e : Ending) (w' : World) : Prop :=
  e = .returned (.bool (hasF (askL xs x) x)) ∧ ∃ v', TAt w' t v' (askL xs x) ∧ Off (foot t v) w w'
theorem Own.snoc {w : World} {base : Nat} {v : Value} {xs : List Int} (h : Own w base v xs) (ty : TypeId) (X : Nat) (x : Int) (hX : Row w X #[.int .i64 x] 3) (hb : base ≤ w.heap.size) (hn : xs.length ≤ 1000) :
    ∃ v' w', (Builtin.append_ #[65, 65] ty #[v, .slice (some ⟨X, 0, none⟩) 1 1]).run Try.prog w = .ok v' w' ∧ Own w' base v' (xs ++ [x]) ∧ w.grownBy w' v.ownBlock := by
  obtain ⟨i, hi, hz, hs, hby⟩ := info_parts info3
  obtain ⟨v', w', hr, h2, h3, h4, h5⟩ := run_append_own_at (P := Try.prog) w base 65 ty 3 i _ 1 8 Try.underlying65 hi hz hs hby rfl (by decide) v xs.length (is xs) h ⟨X, 0, none⟩ 1 1 [.int .i64 x] rfl (fun j u hj => by rw [Addr.add_mid, Nat.zero_add]; exact row_at hX j u (by simpa using hj)) (by simp [Value.oneCell']) (by unfold maxLen; omega) (by omega) hb
  refine ⟨v', w', hr, ?_, h3⟩
  unfold Own
  have e : is (xs ++ [x]) = is xs ++ [.int .i64 x] := by simp [is]
  rw [List.length_append, e]
  exact h2
theorem wpList_copy {T : Value → World → Prop} {w : World} {ops : Array Oper} {rest : List Oper} {o : Oper} {a : Act} {Q : Exit → Act → World → Prop} (hgd : o.guard = none) (s x : Operand) (t : TypeId)
    (ho : o.op = .call { callee := .builtin .append, args := #[s, x], argTypes := #[t, t] }) (sv v : Value) (hs : a.eval s = sv) (hx : a.eval x = v)
    (hr : ∀ ty, ∃ v' w', (Builtin.append_ #[t, t] ty #[sv, v]).run Try.prog w = .ok v' w' ∧ T v' w')
    (h : ∀ v' w', T v' w' → wpList Try.prog ops Q rest (a.put o.dst v') w') : wpList Try.prog ops Q (o :: rest) a w := by
  refine wpList_plain hgd fun K hK => ?_
  obtain ⟨v', w', hrun, hT⟩ := hr o.type
  unfold Oper.wp
  simp [execOp, ho, resolve, invoke, builtin, hs, hx, hrun, Result.andThen]
  exact hK _ _ (h v' w' hT)
set_option maxHeartbeats 1000000 in
theorem ask_any {w : World} {t : Nat} {v : Value} {xs : List Int} (c : TAt w t v xs) (x : Int) (hs : xs.length < 1000) : Calls Try.prog 26 #[.pointer (some ⟨t, 0, none⟩), .int .i64 x] w fun e w' => Asked w t v xs x e w' := by
  have c0 := row_at c.row 0 v rfl
  obtain ⟨PP, HPP⟩ : ∃ PP : Ending → World → Prop, Hid (PP = fun e w' => Asked w t v xs x e w') := ⟨_, rfl⟩
  rw [← HPP.out]
  by_cases hm : x ∈ xs
  · have hc := contains_any c.own x c.small true (by simp [hm])
    have hh := has_any c x
    have e1 : askL xs x = xs := if_pos hm
    have HE : Hid (∀ b, b = hasF xs x → PP (.returned (.bool b)) w) := fun b hb => by rw [HPP.out, hb]; unfold Asked; rw [e1]; exact ⟨rfl, v, c, Off.refl _ _⟩
    obtain ⟨b, HB⟩ : ∃ b, Hid (hasF xs x = b) := ⟨_, rfl⟩
    rw [HB.out] at hh
    clear hm e1 c
    go_enter Try.func26, Try.ntmps26
    go_wp2_with (first
      | (go_at_call 37; refine hc.mono ?_; clear hc; rintro e wb ⟨he, hww⟩; rw [hww]; clear hww wb; obtain rfl := he)
      | (go_at_call 30; refine hh.mono ?_; clear hh; rintro e wb ⟨he, hww⟩; rw [hww]; clear hww wb; obtain rfl := he))
    try go_ret
    exact HE.out _ HB.out.symm
  · have hc := contains_any c.own x c.small false (by simp [hm])
    have e1 : askL xs x = xs ++ [x] := if_neg hm
    have ab : Below w.heap.size w (w.alloc (.cells #[.int .i64 x] 3)) := (Below.refl _ _).alloc (Nat.le_refl _) _
    have rX : Row (w.alloc (.cells #[.int .i64 x] 3)) w.heap.size #[.int .i64 x] 3 := Row.new _ _ _
    have own1 := c.own.below ab
    have row1 := c.row.below ab c.row.lt
    have htw := c.row.lt
    have hsz : w.heap.size ≤ (w.alloc (.cells #[.int .i64 x] 3)).heap.size := ab.size
    have O1 : Off (foot t v) w (w.alloc (.cells #[.int .i64 x] 3)) := Off.of_below ab
    have HR : Hid (∀ ty, ∃ v' w', (Builtin.append_ #[65, 65] ty #[v, .slice (some ⟨w.heap.size, 0, none⟩) 1 1]).run Try.prog (w.alloc (.cells #[.int .i64 x] 3)) = .ok v' w' ∧ (Own w' (t + 1) v' (xs ++ [x]) ∧ Row w' t #[v] 78 ∧ Off (foot t v) w w')) := fun ty => by
      obtain ⟨v', w', h1, h2, h3⟩ := own1.snoc ty _ x rX (by omega) c.small
      have o3 : Off (fun k => v.ownBlock = some k) (w.alloc (.cells #[.int .i64 x] 3)) w' := Off.of_grown h3 (fun k hk => hk)
      exact ⟨v', w', h1, h2, row1.off o3 (fun hk => by have := (World.ownsRow.lt own1 t hk).1; omega), O1.trans o3 (fun j q => Or.inl (Or.inr q))⟩
    have HT : Hid (∀ v' w', Own w' (t + 1) v' (xs ++ [x]) → Row w' t #[v] 78 → TAt (w'.setCell ⟨t, 0, none⟩ v') t v' (xs ++ [x])) := fun v' w' h1 h2 => { row := row_set h2 0 v', own := h1.other t 0 v' (by omega), one := List.nodup_append.2 ⟨c.one, by simp, fun a ha b hb e => by simp at hb; subst hb; subst e; exact hm ha⟩, small := by rw [List.length_append]; simp <;> omega }
    have HH : Hid (∀ v' w', TAt w' t v' (xs ++ [x]) → Calls Try.prog 30 #[.pointer (some ⟨t, 0, none⟩), .int .i64 x] w' fun e w2 => e = .returned (.bool (hasF (xs ++ [x]) x)) ∧ w2 = w') := fun v' w' c' => has_any c' x
    have HE : Hid (∀ b v' w', b = hasF (xs ++ [x]) x → TAt w' t v' (xs ++ [x]) → Off (foot t v) w w' → PP (.returned (.bool b)) w') := fun b v' w' hb h1 h2 => by rw [HPP.out, hb]; unfold Asked; rw [e1]; exact ⟨rfl, v', h1, h2⟩
    obtain ⟨M, HM⟩ : ∃ M, Hid ((xs ++ [x]).length = M) := ⟨_, rfl⟩
    clear e1 hm c own1 row1 O1 rX ab hsz
    go_enter Try.func26, Try.ntmps26
    go_wp2_with (first
      | (go_at_call 37; refine hc.mono ?_; clear hc; rintro e wb ⟨he, hww⟩; rw [hww]; clear hww wb; obtain rfl := he)
      | (at_builtin; refine wpList_copy rfl (.tmp 18) (.tmp 20) 65 rfl _ _ rfl rfl (fun ty => HR.out ty) ?_; clear HR; rintro v2 w2 ⟨own2, row2, O2⟩; obtain ⟨oa2, cap2, hv2⟩ := own2.form; rw [HM.out] at hv2; subst hv2; have T2 := HT.out _ _ own2 row2; have f2 := row_frozen row2 0; have d2 := row_at row2 0 v rfl; have O3 := O2.trans (Off.of_setCell (F := foot t v) w2 ⟨t, 0, none⟩ (.slice oa2 M cap2) (Or.inl rfl)) (fun j q => Or.inl q); clear own2 row2 O2 HT)
      | (go_at_call 30; refine (HH.out _ _ T2).mono ?_; clear HH; rintro e wb ⟨he, hww⟩; rw [hww]; clear hww wb; obtain rfl := he))
    try go_ret
    exact HE.out _ _ _ rfl T2 O3
def lays23_ren : Go.Shelf.Ren := ⟨fun | 23 => 39 | n => n, fun | 22 => 65 | n => n, fun | n => n⟩
theorem lays23 : Go.Proofs.Lays2.n23 Try.prog lays23_ren := {
  mixed := by kernel_rfl
  f23 := Try.func39.trans (congrArg some (by kernel_rfl))
  t0 := Try.underlying0
  a0 := Try.isAgg0
  z0 := Try.sizeOf0
  v0 := Try.zeroValue0
  t3 := Try.underlying3
  a3 := Try.isAgg3
  z3 := Try.sizeOf3
  v3 := Try.zeroValue3
  t4 := Try.underlying4
  a4 := Try.isAgg4
  z4 := Try.sizeOf4
  v4 := Try.zeroValue4
  t22 := Try.underlying65
  a22 := Try.isAgg65
  z22 := Try.sizeOf65
  v22 := Try.zeroValue65
  i3 := info3 }
/-- One is taken out of a list in its own memory. -/
def Cut1 (w : World) (base g cap : Nat) (A B : List Int) (e : Ending) (w' : World) : Prop :=
  e = .returned (.slice (some ⟨g, 0, none⟩) (A ++ B).length cap) ∧ Own w' base (.slice (some ⟨g, 0, none⟩) (A ++ B).length cap) (A ++ B) ∧ Off (· = g) w w'
theorem delete_any {w : World} {base g cap : Nat} {A B : List Int} {x : Int} (c : Own w base (.slice (some ⟨g, 0, none⟩) (A ++ x :: B).length cap) (A ++ x :: B)) (hs : (A ++ x :: B).length ≤ 1000) :
    Calls Try.prog 39 #[.slice (some ⟨g, 0, none⟩) (A ++ x :: B).length cap, .int .i64 A.length, .int .i64 ((A.length + 1 : Nat) : Int)] w fun e w' => Cut1 w base g cap A B e w' := by
  rcases c.2 with ⟨q, _⟩ | ⟨g', c', cur, q, hb, hc, hle, hm, hsz, htk⟩
  · cases q
  · cases q
    have hl : (A ++ x :: B).length = A.length + 1 + B.length := by simp <;> omega
    have hH := holds_of_blockI (ss := A ++ x :: B) hc (by rw [Nat.mul_one] at htk; exact htk)
    have h := Any.slices_Delete_int lays23 g 0 cap A.length (A.length + 1) (A ++ x :: B) w hH hle (by unfold maxLen at hm; omega) (Nat.le_succ _) (by rw [hl]; omega)
    have e1 : (A ++ x :: B).take A.length ++ (A ++ x :: B).drop (A.length + 1) ++ List.replicate (A.length + 1 - A.length) 0 = A ++ B ++ [0] := by
      rw [List.take_left', List.drop_append, show A.length + 1 - A.length = 1 by omega]
      · simp
      · rfl
    have e2 : (A ++ x :: B).length - (A.length + 1 - A.length) = (A ++ B).length := by rw [hl]; simp <;> omega
    rw [e1, e2] at h
    refine Calls.mono h ?_
    rintro e w' ⟨he, k, hw⟩
    have hw' : w' = Go.Sort.grow (Go.Sort.putRow (Value.int .i64) (Go.Sort.ahead w k) g 0 (A ++ B ++ [0]).toArray) #[] := by rw [hw, Go.Sort.grow_empty]
    have own := ownsRow_sortedI (w := w) (n := k) (os := #[]) (ts := A ++ B ++ [0]) (ss := A ++ x :: B) (by simp <;> omega) hb hc hle hm hsz
    have gr := grownBy_sortedI (w := w) (g := g) (n := k) (os := #[]) (A ++ B ++ [0]).toArray
    rw [← hw'] at own gr
    refine ⟨he, ?_, Off.of_grown gr (fun j hj => by cases hj; rfl)⟩
    refine ⟨by rw [is_length]; omega, ?_⟩
    rcases own.2 with ⟨q, _⟩ | ⟨g2, c2, cur2, q, hb2, hc2, hle2, hm2, hsz2, htk2⟩
    · cases q
    · cases q
      refine Or.inr ⟨g, cap, cur2, rfl, hb2, hc2, by rw [hl] at hle2; simp <;> omega, hm2, hsz2, ?_⟩
      have e3 : (A ++ B).length * 1 = min ((A ++ B).length) ((A ++ x :: B).length * 1) := by rw [hl]; simp <;> omega
      have e4 : cur2.toList.take ((A ++ B).length * 1) = (cur2.toList.take ((A ++ x :: B).length * 1)).take (A ++ B).length := by rw [List.take_take, ← e3]
      rw [e4, htk2, ← List.map_take, List.take_left']
      · rfl
      · rfl
/-- The line behind a Leave. -/
def leaveL (xs : List Int) (x : Int) : List Int := xs.filter fun y => !decide (y = x)
/-- What Leave leaves. -/
def Left (w : World) (t : Nat) (v : Value) (xs : List Int) (x : Int) (e : Ending) (w' : World) : Prop :=
  e = .returned (.bool (decide (x ∈ xs))) ∧ ∃ v', TAt w' t v' (leaveL xs x) ∧ Off (foot t v) w w' ∧ v'.ownBlock = v.ownBlock
theorem leaveL_split {A B : List Int} {x : Int} (h : (A ++ x :: B).Nodup) : leaveL (A ++ x :: B) x = A ++ B := by
  obtain ⟨h1, h2, h3⟩ := List.nodup_append.1 h
  obtain ⟨h4, h5⟩ := List.nodup_cons.1 h2
  unfold leaveL
  rw [List.filter_append, List.filter_cons]
  simp only [decide_true, Bool.not_true, Bool.false_eq_true, if_false]
  rw [List.filter_eq_self.2 (fun y hy => by have := h3 y hy x (by simp); simpa using this), List.filter_eq_self.2 (fun y hy => by simp; rintro rfl; exact h4 hy)]
set_option maxHeartbeats 1000000 in
theorem leave_any {w : World} {t : Nat} {v : Value} {xs : List Int} (c : TAt w t v xs) (x : Int) : Calls Try.prog 28 #[.pointer (some ⟨t, 0, none⟩), .int .i64 x] w fun e w' => Left w t v xs x e w' := by
  have c0 := row_at c.row 0 v rfl
  have hi := index_any c.own x c.small
  obtain ⟨PP, HPP⟩ : ∃ PP : Ending → World → Prop, Hid (PP = fun e w' => Left w t v xs x e w') := ⟨_, rfl⟩
  rw [← HPP.out]
  by_cases hm : x ∈ xs
  · obtain ⟨A, B, hx, hA, e⟩ := idx_some hm
    rw [e] at hi
    have hsm := c.small
    obtain ⟨g, cap, hv, hg, hle, hmx⟩ := c.own.blk (by rw [hx]; simp <;> omega)
    subst hx
    subst hv
    have hd := delete_any c.own hsm
    have HD : Hid (∀ e w', Cut1 w (t + 1) g cap A B e w' → e = .returned (.slice (some ⟨g, 0, none⟩) (A ++ B).length cap) ∧ TAt (w'.setCell ⟨t, 0, none⟩ (.slice (some ⟨g, 0, none⟩) (A ++ B).length cap)) t (.slice (some ⟨g, 0, none⟩) (A ++ B).length cap) (A ++ B) ∧ Row w' t #[.slice (some ⟨g, 0, none⟩) (A ++ x :: B).length cap] 78 ∧ Off (foot t (.slice (some ⟨g, 0, none⟩) (A ++ x :: B).length cap)) w (w'.setCell ⟨t, 0, none⟩ (.slice (some ⟨g, 0, none⟩) (A ++ B).length cap))) := fun e w' h => by
      obtain ⟨h1, h2, h3⟩ := h
      have r2 := c.row.off h3 (show ¬ t = g by omega)
      refine ⟨h1, { row := row_set r2 0 _, own := h2.other t 0 _ (by omega), one := ?_, small := by simp at hsm ⊢ <;> omega }, r2, (h3.mono (F' := foot t (.slice (some ⟨g, 0, none⟩) (A ++ x :: B).length cap)) (fun j q => Or.inl (Or.inr (by rw [q]; rfl)))).trans (Off.of_setCell (F := foot t (.slice (some ⟨g, 0, none⟩) (A ++ x :: B).length cap)) _ _ _ (Or.inl rfl)) (fun j q => Or.inl q)⟩
      have := c.one
      rw [← leaveL_split c.one]
      exact this.filter _
    have HE : Hid (∀ v' w', TAt w' t v' (A ++ B) → Off (foot t (.slice (some ⟨g, 0, none⟩) (A ++ x :: B).length cap)) w w' → v'.ownBlock = some g → PP (.returned (.bool true)) w') := fun v' w' h1 h2 h3 => by rw [HPP.out]; unfold Left; rw [leaveL_split c.one]; exact ⟨by simp, v', h1, h2, h3⟩
    have hwA : IntKind.i64.wrap ((A.length : Int) + 1) = ((A.length + 1 : Nat) : Int) := by simp at hsm; rw [IntKind.wrap_i64]; omega
    have i0 : ¬ (A.length : Int) < 0 := by omega
    obtain ⟨N, HN⟩ : ∃ N, Hid ((A ++ x :: B).length = N) := ⟨_, rfl⟩
    obtain ⟨M, HM⟩ : ∃ M, Hid ((A ++ B).length = M) := ⟨_, rfl⟩
    rw [HN.out] at hi hd c0 HD HE
    rw [HM.out] at HD
    clear c e hm hA hg hle hmx hsm
    go_enter Try.func28, Try.ntmps28
    go_wp2_with (first
      | (go_at_call 38; refine hi.mono ?_; clear hi; rintro e wb ⟨he, hww⟩; rw [hww]; clear hww wb; obtain rfl := he)
      | (go_at_call 39; refine hd.mono ?_; clear hd; intro e w2 hq; obtain ⟨he, T2, row2, O2⟩ := HD.out _ _ hq; obtain rfl := he; clear hq HD; have f2 := row_frozen row2 0; have d2 := row_at row2 0 _ rfl; clear row2))
    try go_ret
    exact HE.out _ _ T2 O2 rfl
  · rw [idx_none hm] at hi
    have HE : Hid (PP (.returned (.bool false)) w) := by
      show PP _ _
      rw [HPP.out]
      have e : leaveL xs x = xs := List.filter_eq_self.2 fun y hy => by simp; rintro rfl; exact hm hy
      unfold Left
      rw [e]
      exact ⟨by simp [hm], v, c, Off.refl _ _, rfl⟩
    clear c hm
    go_enter Try.func28, Try.ntmps28
    go_wp2_with (go_at_call 38; refine hi.mono ?_; clear hi; rintro e wb ⟨he, hww⟩; rw [hww]; clear hww wb; obtain rfl := he)
    try go_ret
    exact HE.out
end Go.Proofs.Ytmnbfcmamhinbaa.Tu
