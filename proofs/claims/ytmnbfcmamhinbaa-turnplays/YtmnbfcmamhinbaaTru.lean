/-
  A turn and the document's one, side by side: who stands in the line, in order of their asking.
-/
import Derived.Test.YtmnbfcmamhinbaaTrt
namespace Go.Proofs.Ytmnbfcmamhinbaa.Tu
open Go.ChangeShapes Go.WideShapes Go.ChangeAt Go.RowKit
open Go.Deep
set_option linter.unusedVariables false
set_option linter.unusedSimpArgs false

theorem nodup_rev {xs : List Int} (h : xs.Nodup) : xs.reverse.Nodup := List.pairwise_reverse.2 (h.imp fun {a b} q e => q e.symm)
structure Rel (xs : List Int) (N : Int) (L : List On.O) : Prop where
  names : L.map On.O.who = xs.reverse
  down : L.Pairwise fun a b => b.when < a.when
  rng : ∀ o ∈ L, 1 ≤ o.when ∧ o.when ≤ N
theorem Rel.length {xs : List Int} {N : Int} {L : List On.O} (h : Rel xs N L) : L.length = xs.length := by
  have := congrArg List.length h.names
  simpa using this
theorem mem_one {L : List On.O} (h : (L.map On.O.who).Nodup) {a b : On.O} (ha : a ∈ L) (hb : b ∈ L) (e : a.who = b.who) : a = b := by
  induction L with
  | nil => simp at ha
  | cons y r ih =>
    rw [List.map_cons, List.nodup_cons] at h
    rcases List.mem_cons.1 ha with rfl | ha' <;> rcases List.mem_cons.1 hb with rfl | hb'
    · rfl
    · exact absurd (List.mem_map.2 ⟨b, hb', e.symm⟩) h.1
    · exact absurd (List.mem_map.2 ⟨a, ha', e⟩) h.1
    · exact ih h.2 ha' hb'
theorem when_mem {L : List On.O} (h : (L.map On.O.who).Nodup) {o : On.O} (ho : o ∈ L) : whenL L o.who = o.when := by
  have hs : (L.find? fun q => decide (q.who = o.who)).isSome = true := List.find?_isSome.2 ⟨o, ho, by simp⟩
  obtain ⟨y, hy⟩ := Option.isSome_iff_exists.1 hs
  have h1 := List.find?_some hy
  have h2 := List.mem_of_find?_eq_some hy
  simp at h1
  have := mem_one h h2 ho h1
  unfold whenL
  rw [hy, this]
theorem when_none {xs : List Int} {N : Int} {L : List On.O} (h : Rel xs N L) {x : Int} (hx : ¬ x ∈ xs) : whenL L x = 0 := by
  have e : L.find? (fun q => decide (q.who = x)) = none := by
    rw [List.find?_eq_none]
    intro o ho
    simp
    rintro rfl
    have : o.who ∈ L.map On.O.who := List.mem_map.2 ⟨o, ho, rfl⟩
    rw [h.names] at this
    exact hx (List.mem_reverse.1 this)
  unfold whenL
  rw [e]
theorem when_at {xs : List Int} {N : Int} {L : List On.O} (h : Rel xs N L) (hn : xs.Nodup) {i : Nat} {x : Int} (hi : xs[i]? = some x) : ∃ o, L.reverse[i]? = some o ∧ o.who = x ∧ o ∈ L ∧ whenL L x = o.when := by
  have e : L.reverse.map On.O.who = xs := by rw [List.map_reverse, h.names, List.reverse_reverse]
  rw [← e, List.getElem?_map] at hi
  cases hq : L.reverse[i]? with
  | none => rw [hq] at hi; cases hi
  | some o =>
    rw [hq] at hi
    have hw : o.who = x := by simpa using hi
    have hm : o ∈ L := List.mem_reverse.1 (List.mem_of_getElem? hq)
    refine ⟨o, rfl, hw, hm, ?_⟩
    rw [← hw]
    exact when_mem (by rw [h.names]; exact nodup_rev hn) hm
theorem when_rises {xs : List Int} {N : Int} {L : List On.O} (h : Rel xs N L) (hn : xs.Nodup) {i j : Nat} {x y : Int} (hi : xs[i]? = some x) (hj : xs[j]? = some y) (hij : i < j) : whenL L x < whenL L y := by
  obtain ⟨a, h1, _, _, e1⟩ := when_at h hn hi
  obtain ⟨b, h2, _, _, e2⟩ := when_at h hn hj
  rw [e1, e2]
  have hp : L.reverse.Pairwise fun a b => a.when < b.when := List.pairwise_reverse.2 h.down
  obtain ⟨l1, q1⟩ := List.getElem?_eq_some_iff.1 h1
  obtain ⟨l2, q2⟩ := List.getElem?_eq_some_iff.1 h2
  have := List.pairwise_iff_getElem.1 hp i j l1 l2 hij
  rw [q1, q2] at this
  exact this
theorem when_pos {xs : List Int} {N : Int} {L : List On.O} (h : Rel xs N L) (hn : xs.Nodup) {i : Nat} {x : Int} (hi : xs[i]? = some x) : 0 < whenL L x := by
  obtain ⟨a, _, _, hm, e1⟩ := when_at h hn hi
  rw [e1]
  have := h.rng a hm
  omega
theorem hasF_not {xs : List Int} {x : Int} (h : ¬ x ∈ xs) : hasF xs x = false := by
  cases xs with
  | nil => rfl
  | cons y r =>
    show (y == x) = false
    have : ¬ y = x := fun e => h (by simp [e])
    simpa using this
theorem hasF_at {xs : List Int} (h : xs.Nodup) {j : Nat} {x : Int} (hj : xs[j]? = some x) : hasF xs x = decide (j = 0) := by
  cases xs with
  | nil => simp at hj
  | cons y r =>
    show (y == x) = _
    cases j with
    | zero => simp at hj; simp [hj]
    | succ k =>
      have hx : x ∈ r := List.mem_of_getElem? (by simpa using hj)
      have : ¬ y = x := fun e => (List.nodup_cons.1 h).1 (e ▸ hx)
      simpa using this
theorem rhas_is {xs : List Int} {N : Int} {L : List On.O} (h : Rel xs N L) (hn : xs.Nodup) (x : Int) : rhasV L x = hasF xs x := by
  by_cases hx : x ∈ xs
  · obtain ⟨i, hi, hxi⟩ := List.getElem_of_mem hx
    have hix : xs[i]? = some x := by rw [List.getElem?_eq_getElem hi, hxi]
    rw [hasF_at hn hix]
    have hp := when_pos h hn hix
    unfold rhasV
    by_cases h0 : i = 0
    · subst h0
      rw [if_neg]
      · simp [hp]
      · rintro ⟨o, ho, hw⟩
        have hom : o.who ∈ xs := by
          have : o.who ∈ L.map On.O.who := List.mem_map.2 ⟨o, ho, rfl⟩
          rw [h.names] at this
          exact List.mem_reverse.1 this
        obtain ⟨j, hj, hoj⟩ := List.getElem_of_mem hom
        have hjo : xs[j]? = some o.who := by rw [List.getElem?_eq_getElem hj, hoj]
        have hwo := when_mem (by rw [h.names]; exact nodup_rev hn) ho
        by_cases hj0 : j = 0
        · subst hj0
          rw [hix] at hjo
          cases hjo
          omega
        · have := when_rises h hn hix hjo (by omega)
          omega
    · rw [if_pos]
      · simp [h0]
      · obtain ⟨o, _, hw, hm, he⟩ := when_at h hn (i := 0) (x := xs[0]'(by omega)) (List.getElem?_eq_getElem (by omega))
        refine ⟨o, hm, ?_⟩
        rw [← he]
        exact when_rises h hn (List.getElem?_eq_getElem (by omega)) hix (by omega)
  · rw [hasF_not hx]
    unfold rhasV
    rw [when_none h hx]
    rw [if_neg]
    · simp
    · rintro ⟨o, ho, hw⟩
      have := h.rng o ho
      omega
/-- What an Ask of the document's turn leaves. -/
def RAsk (w : World) (r : Nat) (u : Value) (N : Int) (xs : List Int) (x : Int) (e : Ending) (w' : World) : Prop :=
  e = .returned (.bool (hasF (askL xs x) x)) ∧ ∃ u' N' L', RtAt w' r u' N' L' ∧ Rel (askL xs x) N' L' ∧ 0 ≤ N' ∧ N' ≤ N + 1 ∧ Off (foot r u) w w'
theorem askL_nodup {xs : List Int} (h : xs.Nodup) (x : Int) : (askL xs x).Nodup := by
  unfold askL
  split
  · exact h
  · rename_i hm
    exact List.nodup_append.2 ⟨h, by simp, fun a ha b hb e => by simp at hb; subst hb; subst e; exact hm ha⟩
theorem rask_rel {w : World} {r : Nat} {u : Value} {N : Int} {L : List On.O} {xs : List Int} (c : RtAt w r u N L) (h : Rel xs N L) (hn : xs.Nodup) (hN : 0 ≤ N ∧ N < 1000000) (hl : xs.length < 100) (x : Int) :
    Calls Try.prog 27 #[.pointer (some ⟨r, 0, none⟩), .int .i64 x] w fun e w' => RAsk w r u N xs x e w' := by
  by_cases hx : x ∈ xs
  · obtain ⟨i, hi, hxi⟩ := List.getElem_of_mem hx
    have hix : xs[i]? = some x := by rw [List.getElem?_eq_getElem hi, hxi]
    have hp := when_pos h hn hix
    have e1 : askL xs x = xs := if_pos hx
    refine (rask_old c x (by omega)).mono fun e w' q => ?_
    unfold RAsk
    rw [e1, ← rhas_is h hn]
    exact ⟨q.1, u, N, L, c.below q.2, h, hN.1, by omega, Off.of_below q.2⟩
  · have e1 : askL xs x = xs ++ [x] := if_neg hx
    refine (rask_new c x (when_none h hx) (by rw [h.length]; exact hl) hN).mono fun e w' q => ?_
    obtain ⟨q1, u', q2, q3⟩ := q
    have hr : Rel (askL xs x) (N + 1) (⟨x, N + 1⟩ :: L) := by
      rw [e1]
      refine { names := by rw [List.map_cons, h.names]; simp, down := List.pairwise_cons.2 ⟨fun o ho => by have := h.rng o ho; show o.when < N + 1; omega, h.down⟩, rng := fun o ho => ?_ }
      rcases List.mem_cons.1 ho with rfl | ho
      · exact ⟨by show 1 ≤ N + 1; omega, Int.le_refl _⟩
      · have := h.rng o ho; omega
    unfold RAsk
    rw [← rhas_is hr (askL_nodup hn x)]
    exact ⟨q1, u', N + 1, _, q2, hr, by omega, by omega, q3.mono (fun j e => Or.inl (Or.inl e))⟩
/-- What a Leave of the document's turn leaves. -/
def RLeave (w : World) (r : Nat) (u : Value) (N : Int) (xs : List Int) (x : Int) (e : Ending) (w' : World) : Prop :=
  e = .returned (.bool (decide (x ∈ xs))) ∧ ∃ u' N' L', RtAt w' r u' N' L' ∧ Rel (leaveL xs x) N' L' ∧ 0 ≤ N' ∧ N' ≤ N + 1 ∧ Off (foot r u) w w'
theorem rleave_rel {w : World} {r : Nat} {u : Value} {N : Int} {L : List On.O} {xs : List Int} (c : RtAt w r u N L) (h : Rel xs N L) (hN : 0 ≤ N) (x : Int) :
    Calls Try.prog 29 #[.pointer (some ⟨r, 0, none⟩), .int .i64 x] w fun e w' => RLeave w r u N xs x e w' := by
  have hr : Rel (leaveL xs x) N (rleaveL L x) := by
    refine { names := ?_, down := h.down.filter _, rng := fun o ho => h.rng o (List.mem_filter.1 ho).1 }
    unfold leaveL rleaveL
    rw [← List.filter_reverse, ← h.names, List.filter_map]
    rfl
  have hd : decide ((rleaveL L x).length < L.length) = decide (x ∈ xs) := by
    by_cases hx : x ∈ xs
    · rw [decide_eq_true hx]
      have : x ∈ L.map On.O.who := by rw [h.names]; exact List.mem_reverse.2 hx
      obtain ⟨o, ho, hw⟩ := List.mem_map.1 this
      have : (rleaveL L x).length < L.length := by
        rcases Nat.lt_or_ge (rleaveL L x).length L.length with q | q
        · exact q
        · have e := List.length_filter_eq_length_iff.1 (Nat.le_antisymm (List.length_filter_le _ _) q)
          have := e o ho
          simp [hw] at this
      exact decide_eq_true this
    · rw [decide_eq_false hx]
      have e : rleaveL L x = L := List.filter_eq_self.2 fun o ho => by
        simp
        rintro rfl
        have : o.who ∈ L.map On.O.who := List.mem_map.2 ⟨o, ho, rfl⟩
        rw [h.names] at this
        exact hx (List.mem_reverse.1 this)
      rw [e]
      simp
  refine (rleave_any c x).mono fun e w' q => ?_
  obtain ⟨q1, u', q2, q3⟩ := q
  rw [hd] at q1
  exact ⟨q1, u', N, _, q2, hr, hN, by omega, q3.mono (fun j e => Or.inl (Or.inl e))⟩
theorem askL_length (xs : List Int) (x : Int) : (askL xs x).length ≤ xs.length + 1 := by
  unfold askL
  split
  · omega
  · simp
theorem leaveL_length (xs : List Int) (x : Int) : (leaveL xs x).length ≤ xs.length := List.length_filter_le _ _
end Go.Proofs.Ytmnbfcmamhinbaa.Tu
