/-
  Plain facts on frames that a hand goes over: the list of them from the hand on, which one is given up, and what stays.
-/
import Derived.Test.YtobdeijbmnenmabArr
namespace Go.Proofs.Ytobdeijbmnenmab
set_option linter.unusedVariables false
set_option linter.unusedSimpArgs false

/-- A frame. -/
structure Fr where
  no : Nat
  seen : Bool
  cold : Bool
  pins : Int
def Fr.cf (x : Fr) : Bool := x.cold && decide (x.pins = 0)
/-- A frame that the hand has passed over. -/
def Fr.pass (x : Fr) : Fr := if x.pins = 0 then { x with seen := false } else x
def Fr.hit (x : Fr) : Prop := x.pins = 0 ∧ x.seen = false
/-- The hand goes on until a frame is given up. -/
inductive Vic : List Fr → Nat → List Fr → Prop
  | hit (x : Fr) (T : List Fr) (h : x.hit) : Vic (x :: T) x.no (T ++ [x])
  | pass (x : Fr) (T : List Fr) (v : Nat) (S : List Fr) (h : ¬ x.hit) (q : Vic (T ++ [x.pass]) v S) : Vic (x :: T) v S
theorem Vic.det {R : List Fr} {v : Nat} {S : List Fr} (h : Vic R v S) : ∀ {v' : Nat} {S' : List Fr}, Vic R v' S' → v = v' ∧ S = S' := by
  induction h with
  | hit x T h =>
    intro v' S' q
    cases q with
    | hit => exact ⟨rfl, rfl⟩
    | pass _ _ _ _ hn _ => exact absurd h hn
  | pass x T v S h q ih =>
    intro v' S' q'
    cases q' with
    | hit _ _ hn => exact absurd hn h
    | pass _ _ _ _ _ q'' => exact ih q''
/-- What a clock answers when a frame is wanted, and how its frames stand then. -/
def Vict (R : List Fr) (v : Nat) (ok : Bool) (S : List Fr) : Prop :=
  (∃ A x B, R = A ++ x :: B ∧ (∀ y ∈ A, y.cf = false) ∧ x.cf = true ∧ v = x.no ∧ ok = true ∧ S = B ++ (A ++ [x])) ∨
  ((∀ y ∈ R, y.cf = false) ∧ (∃ y ∈ R, y.pins = 0) ∧ Vic R v S ∧ ok = true) ∨
  ((∀ y ∈ R, y.pins ≠ 0) ∧ v = 0 ∧ ok = false ∧ S = R)
theorem cf_pins {x : Fr} (h : x.cf = true) : x.pins = 0 ∧ x.cold = true := by
  unfold Fr.cf at h
  simp at h
  exact ⟨h.2, h.1⟩
theorem split_det {A A' B B' : List Fr} {x x' : Fr} (e : A ++ x :: B = A' ++ x' :: B') (hA : ∀ y ∈ A, y.cf = false) (hx : x.cf = true) (hA' : ∀ y ∈ A', y.cf = false) (hx' : x'.cf = true) : A = A' ∧ x = x' ∧ B = B' := by
  induction A generalizing A' with
  | nil =>
    cases A' with
    | nil => simp at e; exact ⟨rfl, e.1, e.2⟩
    | cons y r =>
      simp at e
      have := hA' y (by simp)
      rw [← e.1, hx] at this; cases this
  | cons y r ih =>
    cases A' with
    | nil =>
      simp at e
      have := hA y (by simp)
      rw [e.1, hx'] at this; cases this
    | cons z s =>
      simp at e
      obtain ⟨h1, h2, h3⟩ := ih e.2 (fun y hy => hA y (by simp [hy])) (fun y hy => hA' y (by simp [hy]))
      exact ⟨by rw [e.1, h1], h2, h3⟩
theorem Vict.det {R : List Fr} {v v' : Nat} {ok ok' : Bool} {S S' : List Fr} (h : Vict R v ok S) (h' : Vict R v' ok' S') : v = v' ∧ ok = ok' ∧ S = S' := by
  rcases h with ⟨A, x, B, e, hA, hx, rfl, rfl, rfl⟩ | ⟨hn, ⟨y, hy, hy0⟩, hv, rfl⟩ | ⟨hn, rfl, rfl, rfl⟩
  · rcases h' with ⟨A', x', B', e', hA', hx', rfl, rfl, rfl⟩ | ⟨hn', _⟩ | ⟨hn', _⟩
    · obtain ⟨rfl, rfl, rfl⟩ := split_det (e.symm.trans e') hA hx hA' hx'
      exact ⟨rfl, rfl, rfl⟩
    · have := hn' x (by rw [e]; simp)
      rw [hx] at this; cases this
    · exact absurd (cf_pins hx).1 (hn' x (by rw [e]; simp))
  · rcases h' with ⟨A', x', B', e', hA', hx', _⟩ | ⟨hn', _, hv', rfl⟩ | ⟨hn', _⟩
    · have := hn x' (by rw [e']; simp)
      rw [hx'] at this; cases this
    · obtain ⟨rfl, rfl⟩ := hv.det hv'
      exact ⟨rfl, rfl, rfl⟩
    · exact absurd hy0 (hn' y hy)
  · rcases h' with ⟨A', x', B', e', hA', hx', _⟩ | ⟨hn', ⟨y, hy, hy0⟩, _⟩ | ⟨hn', rfl, rfl, rfl⟩
    · exact absurd (cf_pins hx').1 (hn x' (by rw [e']; simp))
    · exact absurd hy0 (hn y hy)
    · exact ⟨rfl, rfl, rfl⟩
/-- The frames from the hand on. -/
def ring (fs : List Fr) (h : Nat) : List Fr := fs.drop h ++ fs.take h
/-- The number behind. -/
def nxt (n h : Nat) : Nat := (h + 1) % n
theorem ring_cons {fs : List Fr} {h : Nat} {x : Fr} (hx : fs[h]? = some x) : ring fs h = x :: (fs.drop (h + 1) ++ fs.take h) := by
  have hl := (List.getElem?_eq_some_iff.1 hx).1
  have e := (List.getElem?_eq_some_iff.1 hx).2
  unfold ring
  rw [List.drop_eq_getElem_cons hl, e]; rfl
theorem ring_next {fs : List Fr} {h : Nat} (hl : h < fs.length) (y : Fr) : ring (fs.set h y) (nxt fs.length h) = (fs.drop (h + 1) ++ fs.take h) ++ [y] := by
  unfold nxt
  by_cases e : h + 1 = fs.length
  · rw [e, Nat.mod_self]
    unfold ring
    rw [List.drop_zero, List.take_zero, List.append_nil, List.drop_length, List.nil_append]
    rw [List.set_eq_take_append_cons_drop, if_pos hl, e, List.drop_length]
  · rw [Nat.mod_eq_of_lt (by omega)]
    unfold ring
    rw [List.drop_set_of_lt (by omega), List.set_eq_take_append_cons_drop, if_pos hl, List.append_assoc]
    congr 1
    rw [List.take_append, List.length_take, Nat.min_eq_left (by omega), List.take_of_length_le (by rw [List.length_take]; omega), show h + 1 - h = 1 by omega]
    simp
theorem ring_turn {fs : List Fr} {h : Nat} {x : Fr} (hx : fs[h]? = some x) : ring fs (nxt fs.length h) = (fs.drop (h + 1) ++ fs.take h) ++ [x] := by
  have hl := (List.getElem?_eq_some_iff.1 hx).1
  have e := (List.getElem?_eq_some_iff.1 hx).2
  have := ring_next hl x
  rwa [← e, List.set_getElem_self, e] at this
theorem mem_ring {fs : List Fr} {h : Nat} {x : Fr} : x ∈ ring fs h ↔ x ∈ fs := by
  unfold ring
  rw [List.mem_append, or_comm, ← List.mem_append, List.take_append_drop]
/-- Behind k frames. -/
theorem ring_at {fs : List Fr} {h k : Nat} (hl : h < fs.length) (hk : k < fs.length) : (ring fs h)[k]? = fs[(h + k) % fs.length]? := by
  unfold ring
  by_cases q : h + k < fs.length
  · rw [List.getElem?_append_left (by rw [List.length_drop]; omega), List.getElem?_drop, Nat.mod_eq_of_lt q]
  · rw [List.getElem?_append_right (by rw [List.length_drop]; omega), List.length_drop, List.getElem?_take, if_pos (by omega)]
    congr 1
    rw [Nat.mod_eq_sub_mod (by omega), Nat.mod_eq_of_lt (by omega)]; omega
theorem ring_length (fs : List Fr) (h : Nat) : (ring fs h).length = fs.length := by
  unfold ring
  rw [List.length_append, List.length_drop, List.length_take]; omega
theorem ring_skip {fs : List Fr} {h k : Nat} {x : Fr} (hl : h < fs.length) (hk : k < fs.length) (hx : fs[(h + k) % fs.length]? = some x) :
    ∃ A B, ring fs h = A ++ x :: B ∧ A.length = k ∧ ring fs (nxt fs.length ((h + k) % fs.length)) = B ++ (A ++ [x]) := by
  have hm : (h + k) % fs.length < fs.length := Nat.mod_lt _ (by omega)
  refine ⟨(ring fs h).take k, (ring fs h).drop (k + 1), ?_, by rw [List.length_take, ring_length]; omega, ?_⟩
  · have e := ring_at hl hk
    rw [hx] at e
    have hk' := (List.getElem?_eq_some_iff.1 e).1
    have e' := (List.getElem?_eq_some_iff.1 e).2
    rw [← e', ← List.drop_eq_getElem_cons hk', List.take_append_drop]
  · rw [ring_turn hx]
    by_cases q : h + k < fs.length
    · rw [Nat.mod_eq_of_lt q] at hx ⊢
      unfold ring
      rw [List.drop_append, List.take_append, List.length_drop, List.drop_drop, show k + 1 - (fs.length - h) = 0 by omega, show k - (fs.length - h) = 0 by omega, List.take_zero, List.append_nil, List.drop_zero]
      rw [show h + (k + 1) = h + k + 1 by omega, List.append_assoc, List.append_assoc]
      congr 1
      rw [← List.append_assoc]
      congr 1
      rw [← List.take_add]
    · have e : (h + k) % fs.length = h + k - fs.length := by rw [Nat.mod_eq_sub_mod (by omega), Nat.mod_eq_of_lt (by omega)]
      rw [e] at hx ⊢
      obtain ⟨m, hm'⟩ : ∃ m, h + k - fs.length = m := ⟨_, rfl⟩
      rw [hm'] at hx ⊢
      unfold ring
      have d1 : (fs.drop h ++ fs.take h).drop (k + 1) = (fs.take h).drop (m + 1) := by
        have d0 : (fs.drop h).drop (k + 1) = [] := List.drop_eq_nil_of_le (by rw [List.length_drop]; omega)
        rw [List.drop_append, List.length_drop, d0, List.nil_append, show k + 1 - (fs.length - h) = m + 1 by omega]
      have d2 : (fs.drop h ++ fs.take h).take k = fs.drop h ++ fs.take m := by
        rw [List.take_append, List.length_drop, List.take_of_length_le (l := fs.drop h) (by rw [List.length_drop]; omega), show k - (fs.length - h) = m by omega, List.take_take, Nat.min_eq_left (by omega)]
      rw [d1, d2]
      have e3 : fs.drop (m + 1) = (fs.take h).drop (m + 1) ++ fs.drop h := by
        conv => lhs; rw [← List.take_append_drop h fs]
        rw [List.drop_append, List.length_take, Nat.min_eq_left (by omega), show m + 1 - h = 0 by omega, List.drop_zero]
      rw [e3]
      simp
/-- Frames that nobody holds. -/
def fre (R : List Fr) : List Fr := R.filter fun x => decide (x.pins = 0)
theorem fre_append (A B : List Fr) : fre (A ++ B) = fre A ++ fre B := List.filter_append ..
theorem fre_cons_free {x : Fr} (h : x.pins = 0) (R : List Fr) : fre (x :: R) = x :: fre R := by unfold fre; rw [List.filter_cons, if_pos (by simpa using h)]
theorem fre_cons_held {x : Fr} (h : ¬ x.pins = 0) (R : List Fr) : fre (x :: R) = fre R := by unfold fre; rw [List.filter_cons, if_neg (by simpa using h)]
theorem fre_nil : fre [] = [] := rfl
theorem pass_pins (x : Fr) : x.pass.pins = x.pins := by unfold Fr.pass; split <;> rfl
theorem pass_no (x : Fr) : x.pass.no = x.no := by unfold Fr.pass; split <;> rfl
theorem pass_cold (x : Fr) : x.pass.cold = x.cold := by unfold Fr.pass; split <;> rfl
theorem pass_held {x : Fr} (h : ¬ x.pins = 0) : x.pass = x := by unfold Fr.pass; rw [if_neg h]
theorem pass_seen {x : Fr} (h : x.pins = 0) : x.pass.seen = false := by unfold Fr.pass; rw [if_pos h]
/-- All frames that nobody holds have not been seen: then they come one behind the other. -/
theorem Vic.round {R : List Fr} {v : Nat} {S : List Fr} (h : Vic R v S) (hu : ∀ x ∈ fre R, x.seen = false) : ∃ x T, fre R = x :: T ∧ v = x.no ∧ fre S = T ++ [x] := by
  induction h with
  | hit x T h => exact ⟨x, fre T, fre_cons_free h.1 T, rfl, by rw [fre_append, fre_cons_free h.1, fre_nil]⟩
  | pass x T v S h q ih =>
    have hp : ¬ x.pins = 0 := fun hp => h ⟨hp, hu x (by rw [fre_cons_free hp]; simp)⟩
    rw [fre_cons_held hp] at hu ⊢
    rw [pass_held hp, fre_append, fre_cons_held hp, fre_nil, List.append_nil] at ih
    exact ih hu
/-- So many of the last ones are not seen. -/
def Tail (m : Nat) (F : List Fr) : Prop := ∃ A B, F = A ++ B ∧ m ≤ B.length ∧ ∀ x ∈ B, x.seen = false
theorem Vic.tail {R : List Fr} {v : Nat} {S : List Fr} (h : Vic R v S) : ∀ {m : Nat}, Tail m (fre R) → Tail (m + 1) (fre S) ∨ ∀ x ∈ fre S, x.seen = false := by
  induction h with
  | hit x T h =>
    rintro m ⟨A, B, e, hm, hB⟩
    rw [fre_cons_free h.1] at e
    rw [fre_append, fre_cons_free h.1, fre_nil]
    cases A with
    | nil =>
      right
      intro y hy
      rw [List.nil_append] at e
      refine hB y ?_
      rw [← e]
      simp at hy ⊢
      exact hy.symm
    | cons a A' =>
      left
      simp at e
      refine ⟨A', B ++ [x], by rw [e.2, List.append_assoc], by simp; omega, fun y hy => ?_⟩
      rcases List.mem_append.1 hy with q | q
      · exact hB y q
      · simp at q; rw [q]; exact h.2
  | pass x T v S h q ih =>
    rintro m ⟨A, B, e, hm, hB⟩
    by_cases hp : x.pins = 0
    · have hs : ¬ x.seen = false := fun q => h ⟨hp, q⟩
      rw [fre_cons_free hp] at e
      cases A with
      | nil => rw [List.nil_append] at e; exact absurd (hB x (by rw [← e]; simp)) hs
      | cons a A' =>
        simp at e
        have ht : Tail (m + 1) (fre (T ++ [x.pass])) := by
          refine ⟨A', B ++ [x.pass], ?_, by simp; omega, fun y hy => ?_⟩
          · rw [fre_append, fre_cons_free (by rw [pass_pins]; exact hp), fre_nil, e.2, List.append_assoc]
          · rcases List.mem_append.1 hy with q | q
            · exact hB y q
            · simp at q; rw [q]; exact pass_seen hp
        rcases ih ht with ⟨A2, B2, e2, h2, h3⟩ | h2
        · exact Or.inl ⟨A2, B2, e2, by omega, h3⟩
        · exact Or.inr h2
    · rw [fre_cons_held hp] at e
      refine ih ⟨A, B, ?_, hm, hB⟩
      rw [fre_append, fre_cons_held (by rw [pass_pins]; exact hp), fre_nil, List.append_nil, e]
theorem Vic.keep {R : List Fr} {v : Nat} {S : List Fr} (h : Vic R v S) : (fre S).length = (fre R).length ∧ List.Perm ((fre S).map Fr.no) ((fre R).map Fr.no) ∧ ∀ y ∈ S, ∃ z ∈ R, y.cold = z.cold ∧ y.pins = z.pins ∧ y.no = z.no := by
  induction h with
  | hit x T h =>
    refine ⟨?_, ?_, fun y hy => ⟨y, by simp at hy ⊢; exact hy.symm, rfl, rfl, rfl⟩⟩
    · rw [fre_append, fre_cons_free h.1, fre_cons_free h.1, fre_nil]; simp
    · rw [fre_append, fre_cons_free h.1, fre_cons_free h.1, fre_nil, List.map_append]
      exact List.perm_append_comm
  | pass x T v S h q ih =>
    obtain ⟨i1, i2, i3⟩ := ih
    refine ⟨?_, ?_, fun y hy => ?_⟩
    · rw [i1]
      by_cases hp : x.pins = 0
      · rw [fre_append, fre_cons_free hp, fre_cons_free (by rw [pass_pins]; exact hp), fre_nil]; simp
      · rw [fre_append, fre_cons_held hp, fre_cons_held (by rw [pass_pins]; exact hp), fre_nil]; simp
    · refine i2.trans ?_
      by_cases hp : x.pins = 0
      · rw [fre_append, fre_cons_free hp, fre_cons_free (by rw [pass_pins]; exact hp), fre_nil, List.map_append, List.map_cons, pass_no]
        exact List.perm_append_comm
      · rw [fre_append, fre_cons_held hp, fre_cons_held (by rw [pass_pins]; exact hp), fre_nil, List.append_nil]
    · obtain ⟨z, hz, e1, e2, e3⟩ := i3 y hy
      rcases List.mem_append.1 hz with q | q
      · exact ⟨z, by simp [q], e1, e2, e3⟩
      · simp at q
        subst q
        exact ⟨x, by simp, e1.trans (pass_cold x), e2.trans (pass_pins x), e3.trans (pass_no x)⟩
/-- How far the hand has to go. -/
def far : List Fr → Option Nat
  | [] => none
  | x :: T => if x.pins = 0 ∧ x.seen = false then some 0 else (far T).map (· + 1)
def firstFree : List Fr → Nat
  | [] => 0
  | x :: T => if x.pins = 0 then 0 else firstFree T + 1
def way (R : List Fr) : Nat := match far R with | some k => k | none => R.length + firstFree R
theorem far_lt {R : List Fr} {k : Nat} (h : far R = some k) : k < R.length := by
  induction R generalizing k with
  | nil => simp [far] at h
  | cons x T ih =>
    unfold far at h
    split at h
    · simp at h; subst h; simp
    · cases q : far T with
      | none => rw [q] at h; simp at h
      | some j => rw [q] at h; simp at h; have := ih q; simp; omega
theorem far_append_some {A B : List Fr} {k : Nat} (h : far A = some k) : far (A ++ B) = some k := by
  induction A generalizing k with
  | nil => simp [far] at h
  | cons x T ih =>
    rw [List.cons_append]
    unfold far at h ⊢
    split at h
    · rename_i q; rw [if_pos q]; exact h
    · rename_i q; rw [if_neg q]
      cases e : far T with
      | none => rw [e] at h; simp at h
      | some j => rw [e] at h; rw [ih e]; exact h
theorem far_append_none {A B : List Fr} (h : far A = none) : far (A ++ B) = (far B).map (· + A.length) := by
  induction A with
  | nil => simp
  | cons x T ih =>
    rw [List.cons_append]
    unfold far at h
    split at h
    · simp at h
    · rename_i q
      have e : far T = none := by cases e : far T with
        | none => rfl
        | some j => rw [e] at h; simp at h
      have e2 : far (x :: (T ++ B)) = (far (T ++ B)).map (· + 1) := by
        conv => lhs; unfold far
        rw [if_neg q]
      rw [e2, ih e]
      cases far B with
      | none => rfl
      | some j => simp; omega
theorem firstFree_append {A B : List Fr} (h : ∃ y ∈ A, y.pins = 0) : firstFree (A ++ B) = firstFree A := by
  induction A with
  | nil => obtain ⟨y, hy, _⟩ := h; cases hy
  | cons x T ih =>
    rw [List.cons_append]
    unfold firstFree
    by_cases q : x.pins = 0
    · rw [if_pos q, if_pos q]
    · rw [if_neg q, if_neg q, ih]
      obtain ⟨y, hy, h0⟩ := h
      rcases List.mem_cons.1 hy with rfl | hy
      · exact absurd h0 q
      · exact ⟨y, hy, h0⟩
theorem way_pass {x : Fr} {T : List Fr} (h : ¬ x.hit) (hf : ∃ y ∈ x :: T, y.pins = 0) : way (T ++ [x.pass]) < way (x :: T) ∧ ∃ y ∈ T ++ [x.pass], y.pins = 0 := by
  refine ⟨?_, ?_⟩
  · have e : far (x :: T) = (far T).map (· + 1) := by
      conv => lhs; unfold far
      rw [if_neg (show ¬ (x.pins = 0 ∧ x.seen = false) from h)]
    unfold way
    rw [e]
    cases q : far T with
    | some k => rw [far_append_some q]; simp
    | none =>
      rw [far_append_none q]
      by_cases hp : x.pins = 0
      · have : far [x.pass] = some 0 := by unfold far; rw [if_pos ⟨by rw [pass_pins]; exact hp, pass_seen hp⟩]
        rw [this]; simp; omega
      · have : far [x.pass] = none := by unfold far; rw [if_neg (fun c => hp (by rw [← pass_pins]; exact c.1))]; simp [far]
        rw [this]
        simp
        have hT : ∃ y ∈ T, y.pins = 0 := by
          obtain ⟨y, hy, h0⟩ := hf
          rcases List.mem_cons.1 hy with rfl | hy
          · exact absurd h0 hp
          · exact ⟨y, hy, h0⟩
        rw [firstFree_append hT]
        conv => rhs; unfold firstFree
        rw [if_neg hp]
        omega
  · obtain ⟨y, hy, h0⟩ := hf
    rcases List.mem_cons.1 hy with rfl | hy
    · exact ⟨y.pass, by simp, by rw [pass_pins]; exact h0⟩
    · exact ⟨y, by simp [hy], h0⟩
end Go.Proofs.Ytobdeijbmnenmab
