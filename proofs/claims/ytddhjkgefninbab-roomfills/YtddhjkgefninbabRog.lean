/-
  Plain facts on rooms of which all records are live: how many there are, where they are, when one more has room.
-/
import Derived.Test.YtddhjkgefninbabRoa
namespace Go.Proofs.Ytddhjkgefninbab
open Go.ChangeShapes Go.WideShapes Go.ChangeAt Go.RowKit
set_option linter.unusedVariables false
set_option linter.unusedSimpArgs false

/-- All records are live, all pages may be. -/
def Good (ps : List Pge) : Prop := ∀ p ∈ ps, AL p.os ∧ may p.os = true
theorem liveP_fold : ∀ (ps : List Pge) (z : Int), ps.foldl (fun n p => n + liveN p.os) z = z + liveP ps
  | [], z => by simp [liveP]
  | p :: r, z => by
    unfold liveP
    simp only [List.foldl_cons]
    rw [liveP_fold r (z + liveN p.os), liveP_fold r (0 + liveN p.os)]; omega
theorem liveP_cons (p : Pge) (r : List Pge) : liveP (p :: r) = liveN p.os + liveP r := by
  show (p :: r).foldl _ 0 = _
  rw [List.foldl_cons, liveP_fold]; omega
theorem good_live : ∀ {ps : List Pge}, Good ps → 0 ≤ liveP ps ∧ liveP ps ≤ 15 * ps.length
  | [], _ => by simp [liveP]
  | p :: r, h => by
    have ih := good_live (ps := r) (fun q hq => h q (List.mem_cons_of_mem _ hq))
    have hp := h p (List.mem_cons_self ..)
    have hl := hp.1.live
    have := (may_small hp.2).1
    rw [liveP_cons, List.length_cons]
    omega
theorem liveP_set : ∀ {ps : List Pge} {c : Nat} {p : Pge} (h : ps[c]? = some p) (q : Pge), liveP (ps.set c q) = liveP ps - liveN p.os + liveN q.os
  | [], c, p, h, q => by simp at h
  | z :: r, 0, p, h, q => by
    simp at h; subst h
    rw [List.set_cons_zero, liveP_cons, liveP_cons]; omega
  | z :: r, c + 1, p, h, q => by
    rw [List.set_cons_succ, liveP_cons, liveP_cons, liveP_set (by simpa using h) q]; omega
theorem Good.set {ps : List Pge} (h : Good ps) (c : Nat) {q : Pge} (hq : AL q.os ∧ may q.os = true) : Good (ps.set c q) := fun p hp => by
  rcases List.mem_or_eq_of_mem_set hp with y | y
  · exact h p y
  · rw [y]; exact hq
theorem good_zero (n : Nat) : Good (List.replicate n Pge.zero) := fun p hp => by
  rw [List.eq_of_mem_replicate hp]
  exact ⟨fun o ho => (by cases ho), by decide⟩
theorem live_zero : ∀ n : Nat, liveP (List.replicate n Pge.zero) = 0
  | 0 => rfl
  | n + 1 => by rw [List.replicate_succ, liveP_cons, live_zero n]; rfl
theorem refsO_len {os : List O} (k : Nat) (h : AL os) : (refsO k os).length = os.length := by
  unfold refsO
  rw [List.length_map, List.filter_eq_self.2 (fun x hx => (h x.1 (List.fst_mem_of_mem_zipIdx hx)).1), List.length_zipIdx]
theorem refs_len {ps : List Pge} (h : Good ps) : ∀ k, k ≤ ps.length → ((refsP (ps.take k)).length : Int) = liveP (ps.take k)
  | 0, _ => by simp [refsP, liveP]
  | k + 1, hk => by
    obtain ⟨p, hp⟩ : ∃ p, ps[k]? = some p := ⟨ps[k], List.getElem?_eq_getElem (by omega)⟩
    have hg := (h p (List.mem_of_getElem? hp)).1
    rw [refsP_succ ps k p hp, liveP_succ ps k p hp, List.length_append, refsO_len k hg, hg.live]
    have := refs_len h k (by omega)
    omega
theorem refs_all {ps : List Pge} (h : Good ps) : ((refsP ps).length : Int) = liveP ps := by
  have := refs_len h ps.length (Nat.le_refl _)
  rwa [List.take_length] at this
theorem refs_mem {ps : List Pge} {x : Rf.O} (h : x ∈ refsP ps) : ∃ (k j : Nat) (p : Pge) (o : O), ps[k]? = some p ∧ p.os[j]? = some o ∧ x = ⟨(k : Int) + 1, (j : Int) % 256⟩ := by
  unfold refsP at h
  obtain ⟨⟨p, k⟩, h1, h2⟩ := List.mem_flatMap.1 h
  unfold refsO at h2
  obtain ⟨⟨o, j⟩, h3, h4⟩ := List.mem_map.1 h2
  have h5 := (List.mem_filter.1 h3).1
  exact ⟨k, j, p, o, List.mk_mem_zipIdx_iff_getElem?.1 h1, List.mk_mem_zipIdx_iff_getElem?.1 h5, h4.symm⟩
theorem find_is {ps : List Pge} {l : Nat} {n : Int} {c : Nat} (h : findP ps l n = some c) : ∃ p, ps[c]? = some p ∧ fits p.os n = true := by
  unfold findP at h
  split at h
  · rename_i q
    simp at h; subst h
    cases e : ps[l]? with
    | none => rw [e] at q; simp at q
    | some p => rw [e] at q; exact ⟨p, rfl, by simpa using q⟩
  · rw [List.findIdx?_eq_some_iff_getElem] at h
    obtain ⟨h1, h2, _⟩ := h
    exact ⟨ps[c], List.getElem?_eq_getElem h1, h2⟩
theorem find_none {ps : List Pge} {l : Nat} {n : Int} (h : findP ps l n = none) {p : Pge} (hp : p ∈ ps) : fits p.os n = false := by
  unfold findP at h
  split at h
  · cases h
  · rw [List.findIdx?_eq_none_iff] at h
    exact h p hp
theorem find_some {ps : List Pge} (l : Nat) {n : Int} {k : Nat} {p : Pge} (hp : ps[k]? = some p) (hf : fits p.os n = true) : ∃ c, findP ps l n = some c := by
  cases h : findP ps l n with
  | some c => exact ⟨c, rfl⟩
  | none =>
    have := find_none h (List.mem_of_getElem? hp)
    rw [this] at hf; cases hf
theorem fits_add {os : List O} (h : AL os) (hm : may os = true) {m : Nat} (hf : fits os m = true) {o : O} (hl : o.live = true) (hs : o.delta.size = m) : addE os o = 0 := by
  unfold fits at hf
  simp only [Bool.and_eq_true, decide_eq_true_eq, Int.toNat_natCast] at hf
  have hm66 : m ≤ 66 := by omega
  have hz : (zo m).delta.size = m := zeros_size m
  rw [h.addE hm hl (by omega), hs]
  have := hf.2
  rw [h.addE hm (o := zo m) rfl (by rw [hz]; omega), hz] at this
  exact this
theorem live_free {os : List O} (h : AL os) {k : Nat} {o : O} (e : os[k]? = some o) : liveN (freed os k) = liveN os - 1 := by
  have h1 := h.refill e o
  have h2 : os.set k o = os := by
    apply List.ext_getElem?
    intro i
    by_cases q : k = i
    · subst q; rw [List.getElem?_set_self (List.getElem?_eq_some_iff.1 e).1, e]
    · rw [List.getElem?_set_ne q]
  rw [h2] at h1
  have := live_added (os := freed os k) (h.at_ e).1
  rw [h1] at this
  omega
theorem full_some {ps : List Pge} (h : Good ps) {m : Nat} (hm : m ≤ 66) (hn : 0 < ps.length) (hf : ∀ p ∈ ps, fits p.os m = false) : 0 < (refsP ps).length := by
  have h1 := refs_all h
  obtain ⟨p, r, rfl⟩ : ∃ p r, ps = p :: r := by cases ps with | nil => simp at hn | cons p r => exact ⟨p, r, rfl⟩
  have hp := h p (List.mem_cons_self ..)
  have hr := good_live (ps := r) (fun q hq => h q (List.mem_cons_of_mem _ hq))
  rw [liveP_cons, hp.1.live] at h1
  have : 0 < p.os.length := by
    cases hos : p.os with
    | nil =>
      exfalso
      have e1 := hf p (List.mem_cons_self ..)
      have hA : AL [] := fun o ho => (by cases ho)
      have hz : (zo m).delta.size = m := zeros_size m
      rw [hos] at e1
      unfold fits at e1
      rw [Int.toNat_natCast, hA.addE (by decide) rfl (by rw [hz]; exact hm), hz, if_pos ⟨by simp, by show (16 : Int) + _ ≤ 224; omega⟩, decide_eq_true (by omega : (0 : Int) ≤ m), decide_eq_true (by omega : (m : Int) ≤ 66)] at e1
      simp at e1
    | cons o r => simp
  omega
end Go.Proofs.Ytddhjkgefninbab
