/-
  Plain facts on pages of which all records are live: when one more has room, and that there is room behind a record's leaving.
-/
import Derived.Test.YtddhjkgefninbaaFits
import Derived.Test.YtddhjkgefninbaaKeep
namespace Go.Proofs.Ytddhjkgefninbaa
open Go.ChangeShapes Go.WideShapes Go.ChangeAt Go.RowKit
set_option linter.unusedVariables false
set_option linter.unusedSimpArgs false
set_option maxRecDepth 20000

/-- All are live, none too long. -/
def AL (os : List O) : Prop := ∀ o ∈ os, o.live = true ∧ o.delta.size ≤ 66
theorem AL.at_ {os : List O} (h : AL os) {i : Nat} {o : O} (e : os[i]? = some o) : o.live = true ∧ o.delta.size ≤ 66 := h o (List.mem_of_getElem? e)
theorem AL.snoc {os : List O} (h : AL os) {o : O} (hl : o.live = true) (hs : o.delta.size ≤ 66) : AL (os ++ [o]) := fun p hp => by
  rcases List.mem_append.1 hp with q | q
  · exact h p q
  · simp at q; subst q; exact ⟨hl, hs⟩
theorem AL.spare {os : List O} (h : AL os) : spareAt os = os.length := spare_none os (fun i o e => live_ne (h.at_ e).1)
theorem AL.added {os : List O} (h : AL os) (o : O) : added os o = os ++ [o] := by unfold Go.Proofs.Ytddhjkgefninbaa.added; rw [if_pos h.spare]
theorem AL.okO {os : List O} (h : AL os) : os.all okO = true := List.all_eq_true.2 fun o ho => by
  have := h o ho
  unfold Go.Proofs.Ytddhjkgefninbaa.okO; rw [this.1, decide_eq_true this.2]; rfl
theorem AL.last {os : List O} (h : AL os) : lastLive os = true := by
  unfold lastLive
  cases q : os.getLast? with
  | none => rfl
  | some o => exact (h o (List.mem_of_getLast? q)).1
theorem AL.may {os : List O} (h : AL os) : may os = (decide (os.length ≤ 15) && decide (psize os ≤ 224)) := by
  unfold Go.Proofs.Ytddhjkgefninbaa.may; rw [h.last, h.okO]; simp
theorem psize_snoc (os : List O) (o : O) (hl : o.live = true) : psize (os ++ [o]) = psize os + (11 + (o.delta.size : Int)) := by
  unfold psize; rw [List.foldl_append]; simp [hl]
theorem liveN_snoc (os : List O) (o : O) (hl : o.live = true) : liveN (os ++ [o]) = liveN os + 1 := by
  unfold liveN; rw [List.foldl_append]; simp [hl]
theorem AL.addE {os : List O} (h : AL os) (hm : Go.Proofs.Ytddhjkgefninbaa.may os = true) {o : O} (hl : o.live = true) (hs : o.delta.size ≤ 66) : Go.Proofs.Ytddhjkgefninbaa.addE os o = if (os.length + 1 ≤ 15 ∧ psize os + (11 + (o.delta.size : Int)) ≤ 224) then 0 else 5 := by
  have hf : fit os o = true := by unfold fit; rw [hm, hl, decide_eq_true hs]; rfl
  unfold Go.Proofs.Ytddhjkgefninbaa.addE
  rw [hf, h.added, (h.snoc hl hs).may, psize_snoc _ _ hl, List.length_append]
  by_cases q : os.length + 1 ≤ 15 ∧ psize os + (11 + (o.delta.size : Int)) ≤ 224
  · rw [if_pos q]; simp [q.1, q.2]
  · rw [if_neg q]
    have : (decide (os.length + [o].length ≤ 15) && decide (psize os + (11 + (o.delta.size : Int)) ≤ 224)) = false := by
      rw [Bool.eq_false_iff]; intro z
      simp only [Bool.and_eq_true, decide_eq_true_eq] at z
      exact q ⟨by simpa using z.1, z.2⟩
    rw [this]; rfl
/-- With no room for a record there is none for a longer one. -/
theorem AL.longer {os : List O} (h : AL os) (hm : Go.Proofs.Ytddhjkgefninbaa.may os = true) {o : O} (hl : o.live = true) (hs : o.delta.size ≤ 66) (he : Go.Proofs.Ytddhjkgefninbaa.addE os o ≠ 0) : fits os ((o.delta.size : Int) + 1) = false := by
  rw [Bool.eq_false_iff]; intro q
  unfold fits at q
  simp only [Bool.and_eq_true, decide_eq_true_eq] at q
  have e : ((o.delta.size : Int) + 1).toNat = o.delta.size + 1 := by omega
  rw [e, h.addE hm (o := zo (o.delta.size + 1)) rfl (by show (zeros _).size ≤ 66; rw [zeros_size]; omega)] at q
  have z : (zo (o.delta.size + 1)).delta.size = o.delta.size + 1 := zeros_size _
  rw [z] at q
  rw [h.addE hm hl hs] at he
  split at q
  · rename_i r
    exact he (by rw [if_pos ⟨r.1, by have := r.2; omega⟩])
  · omega
theorem AL.some {os : List O} (h : AL os) (hm : Go.Proofs.Ytddhjkgefninbaa.may os = true) {o : O} (hl : o.live = true) (hs : o.delta.size ≤ 66) (he : Go.Proofs.Ytddhjkgefninbaa.addE os o ≠ 0) : os ≠ [] := by
  rintro rfl
  rw [h.addE hm hl hs] at he
  exact he (if_pos ⟨by simp, by show (16 : Int) + _ ≤ 224; omega⟩)
theorem AL.got {os : List O} (h : AL os) (hm : Go.Proofs.Ytddhjkgefninbaa.may os = true) {k : Nat} {o : O} (e : os[k]? = Option.some o) : Go.Proofs.Ytddhjkgefninbaa.got os k = (o, true) := by
  unfold Go.Proofs.Ytddhjkgefninbaa.got
  rw [e]
  simp only
  rw [if_pos (by rw [hm, (h.at_ e).1]; rfl)]
theorem AL.refill {os : List O} (h : AL os) {k : Nat} {o : O} (e : os[k]? = Option.some o) (p : O) : Go.Proofs.Ytddhjkgefninbaa.added (freed os k) p = os.set k p := by
  have hk : k < os.length := (List.getElem?_eq_some_iff.1 e).1
  have key : ∀ i, i ≠ k → i < os.length → (os.set k O.zero)[i]? ≠ Option.some O.zero := fun i hi hl => by
    rw [List.getElem?_set_ne (fun x => hi x.symm), List.getElem?_eq_getElem hl]
    intro q
    exact live_ne (h _ (List.getElem_mem hl)).1 (by simpa using q)
  have kz : (os.set k O.zero)[k]? = Option.some O.zero := List.getElem?_set_self hk
  by_cases q : k + 1 = os.length
  · have e1 : endAt (os.set k O.zero) os.length = k := by
      rw [← q, endAt_succ, if_pos kz]
      cases k with
      | zero => rfl
      | succ m => rw [endAt_succ, if_neg (key m (by omega) (by omega))]
    have e2 : freed os k = os.take k := by
      unfold freed; rw [e1]
      apply List.ext_getElem?
      intro i
      rw [List.getElem?_take, List.getElem?_take]
      split
      · rw [List.getElem?_set_ne (by omega)]
      · rfl
    have hy : AL (freed os k) := fun o ho => h o (by rw [e2] at ho; exact List.mem_of_mem_take ho)
    rw [hy.added, e2]
    apply List.ext_getElem?
    intro i
    by_cases z : i = k
    · subst z
      rw [List.getElem?_append_right (by simp; omega), List.getElem?_set_self hk]
      simp [Nat.min_eq_left (Nat.le_of_lt hk)]
    · rw [List.getElem?_set_ne (fun x => z x.symm)]
      by_cases y : i < k
      · rw [List.getElem?_append_left (by simp; omega), List.getElem?_take, if_pos y]
      · rw [List.getElem?_eq_none (by simp; omega), List.getElem?_eq_none (by omega)]
  · have e1 : endAt (os.set k O.zero) os.length = os.length := endAt_live (Or.inr ⟨os[os.length - 1], by rw [List.getElem?_set_ne (by omega)]; simp [show os.length - 1 < os.length by omega], live_ne (h _ (List.getElem_mem _)).1⟩)
    have e2 : freed os k = os.set k O.zero := by unfold freed; rw [e1, ← List.length_set (i := k) (a := O.zero), List.take_length]
    have e3 : spareAt (os.set k O.zero) = k := spare_some _ k kz (fun i o hi ho => by
      intro z; subst z; exact key i (by omega) (by omega) ho)
    rw [e2]
    unfold Go.Proofs.Ytddhjkgefninbaa.added
    rw [e3, if_neg (by simp; omega), List.set_set]
/-- Behind a record's leaving one that is no longer has room. -/
theorem AL.room {os : List O} (h : AL os) (hm : Go.Proofs.Ytddhjkgefninbaa.may os = true) {k : Nat} {o : O} (e : os[k]? = Option.some o) (q : Nat) (hq : q ≤ o.delta.size) : fits (freed os k) q = true := by
  have ho := h.at_ e
  have hg := h.got hm e
  obtain ⟨hmf, _⟩ := free_good hg
  have hz : (zo q).delta.size = q := zeros_size q
  have hAL : AL (os.set k (zo q)) := fun p hp => by
    rcases List.mem_or_eq_of_mem_set hp with z | z
    · exact h p z
    · rw [z]; exact ⟨rfl, by rw [hz]; omega⟩
  have hm2 : Go.Proofs.Ytddhjkgefninbaa.may (Go.Proofs.Ytddhjkgefninbaa.added (freed os k) (zo q)) = true := by
    obtain ⟨m1, _, _, m4⟩ := may_small hm
    rw [h.refill e, hAL.may]
    have := psize_set os k o (zo q) e
    rw [ho.1, hz] at this
    have zl : (zo q).live = true := rfl
    rw [zl] at this
    simp only [if_true] at this
    rw [List.length_set, decide_eq_true m1, decide_eq_true (by omega : psize (os.set k (zo q)) ≤ 224)]; rfl
  have hE : Go.Proofs.Ytddhjkgefninbaa.addE (freed os k) (zo q) = 0 := by
    unfold Go.Proofs.Ytddhjkgefninbaa.addE fit
    rw [hmf, hz, hm2, decide_eq_true (by omega : q ≤ 66)]; rfl
  unfold fits
  rw [decide_eq_true (by omega : (0 : Int) ≤ q), decide_eq_true (by omega : (q : Int) ≤ 66), Int.toNat_natCast, decide_eq_true hE]; rfl
theorem AL.live {os : List O} (h : AL os) : liveN os = os.length := by
  have : ∀ (l : List O) (z : Int), (∀ o ∈ l, o.live = true) → l.foldl (fun n o => n + if o.live then 1 else 0) z = z + l.length := by
    intro l
    induction l with
    | nil => intro z _; simp
    | cons o r ih =>
      intro z hz
      simp only [List.foldl_cons, hz o (List.mem_cons_self ..), if_true, List.length_cons]
      rw [ih _ (fun p hp => hz p (List.mem_cons_of_mem _ hp))]
      omega
  unfold liveN
  rw [this os 0 (fun o ho => (h o ho).1)]; omega
end Go.Proofs.Ytddhjkgefninbaa
