/-
  Plain facts on pages: what is done with one record leaves the others as they were, and the page may be.
-/
import Derived.Test.YtddhjkgefninbaaHeld
namespace Go.Proofs.Ytddhjkgefninbaa
open Go.ChangeShapes Go.WideShapes Go.ChangeAt Go.RowKit
set_option linter.unusedVariables false
set_option linter.unusedSimpArgs false
set_option maxRecDepth 20000

theorem got_same {os os' : List O} (h : may os = true) (h' : may os' = true) (i : Nat) (e : os'[i]? = os[i]?) : got os i = got os' i := by
  unfold got; rw [e, h, h']
theorem got_dead {os : List O} (i : Nat) (e : os[i]? = none ∨ os[i]? = some O.zero) : got os i = (O.zero, false) := by
  unfold got
  rcases e with e | e
  · rw [e]
  · rw [e]; simp [O.zero]
theorem add_good {os : List O} {o : O} (h : addE os o = 0) : may (added os o) = true ∧ ∀ i, i ≠ spareAt os → got os i = got (added os o) i := by
  obtain ⟨hf, hm⟩ := addE_ok h
  unfold fit at hf
  simp only [Bool.and_eq_true] at hf
  exact ⟨hm, fun i hi => got_same hf.1.1 hm i (added_other os o i hi)⟩
theorem endAt_ne (os : List O) : ∀ n, endAt os n = 0 ∨ os[endAt os n - 1]? ≠ some O.zero
  | 0 => Or.inl rfl
  | n + 1 => by
    rw [endAt_succ]
    split
    · exact endAt_ne os n
    · rename_i h; exact Or.inr (by simpa using h)
theorem endAt_zero (os : List O) : ∀ n j, endAt os n ≤ j → j < n → os[j]? = some O.zero
  | 0, j, _, h => absurd h (by omega)
  | n + 1, j, h1, h2 => by
    rw [endAt_succ] at h1
    split at h1
    · rename_i q
      by_cases e : j = n
      · subst e; exact q
      · exact endAt_zero os n j h1 (by omega)
    · omega
theorem psize_take (os : List O) : ∀ k, psize (os.take k) ≤ psize os := by
  intro k
  have : ∀ (l : List O) (z : Int), z ≤ l.foldl (fun n o => n + if o.live then 11 + (o.delta.size : Int) else 1) z := by
    intro l
    induction l with
    | nil => intro z; exact Int.le_refl _
    | cons o r ih =>
      intro z
      refine Int.le_trans ?_ (ih _)
      show z ≤ z + (if o.live = true then 11 + (o.delta.size : Int) else 1)
      split <;> omega
  unfold psize
  conv => rhs; rw [← List.take_append_drop k os, List.foldl_append]
  exact this _ _
theorem fold_z (f : O → Int) (os : List O) (z : Int) : os.foldl (fun n o => n + f o) z = z + os.foldl (fun n o => n + f o) 0 := fold_add f os z
theorem psize_set (os : List O) (k : Nat) (p o : O) (h : os[k]? = some p) : psize (os.set k o) = psize os - (if p.live then 11 + (p.delta.size : Int) else 1) + (if o.live then 11 + (o.delta.size : Int) else 1) := by
  unfold psize
  rw [fold_z (fun o => if o.live then 11 + (o.delta.size : Int) else 1), fold_set (fun o => if o.live then 11 + (o.delta.size : Int) else 1) os k p o h, fold_z (fun o => if o.live then 11 + (o.delta.size : Int) else 1) os 16]
  omega
theorem free_good {os : List O} {s : Nat} {o : O} (h : got os s = (o, true)) : may (freed os s) = true ∧ ∀ i, i ≠ s → got os i = got (freed os s) i := by
  obtain ⟨hat, hm, hl⟩ := got_inv h
  obtain ⟨m1, m2, m3, m4⟩ := may_small hm
  have hsl : s < os.length := (List.getElem?_eq_some_iff.1 hat).1
  have hle := endAt_le (os.set s O.zero) os.length
  have hmf : may (freed os s) = true := by
    unfold may freed
    have e1 : ((os.set s O.zero).take (endAt (os.set s O.zero) os.length)).length ≤ 15 := by simp; omega
    have e3 : ∀ p ∈ (os.set s O.zero).take (endAt (os.set s O.zero) os.length), okO p = true := fun p hp => by
      rcases List.mem_or_eq_of_mem_set (List.mem_of_mem_take hp) with q | q
      · exact m3 p q
      · rw [q]; exact okO_zero
    have e2 : lastLive ((os.set s O.zero).take (endAt (os.set s O.zero) os.length)) = true := by
      unfold lastLive
      cases q : ((os.set s O.zero).take (endAt (os.set s O.zero) os.length)).getLast? with
      | none => rfl
      | some p =>
        have hp := e3 p (List.mem_of_getLast? q)
        rw [List.getLast?_eq_getElem?, List.length_take, List.length_set, Nat.min_eq_left hle] at q
        rw [List.getElem?_take] at q
        split at q
        · have hne : p ≠ O.zero := by
            rintro rfl
            rcases endAt_ne (os.set s O.zero) os.length with z | z
            · omega
            · exact z q
          unfold okO at hp
          simp only [Bool.and_eq_true, Bool.or_eq_true, decide_eq_true_eq] at hp
          rcases hp.1 with hp | hp
          · exact hp
          · exact absurd hp hne
        · cases q
    have e4 : psize ((os.set s O.zero).take (endAt (os.set s O.zero) os.length)) ≤ 224 := by
      have a := psize_take (os.set s O.zero) (endAt (os.set s O.zero) os.length)
      have b := psize_set os s o O.zero hat
      have c : (if O.zero.live then 11 + (O.zero.delta.size : Int) else 1) = 1 := rfl
      rw [c, hl] at b
      simp only [if_true] at b
      omega
    rw [decide_eq_true e1, e2, List.all_eq_true.2 e3, decide_eq_true e4]; rfl
  refine ⟨hmf, fun i hi => ?_⟩
  have e0 : (os.set s O.zero)[i]? = os[i]? := List.getElem?_set_ne (fun e => hi e.symm)
  by_cases q : i < endAt (os.set s O.zero) os.length
  · refine got_same hm hmf i ?_
    unfold freed
    rw [List.getElem?_take, if_pos q, e0]
  · have e1 : got (freed os s) i = (O.zero, false) := got_dead i (Or.inl (by unfold freed; rw [List.getElem?_take, if_neg q]))
    rw [e1]
    refine got_dead i ?_
    by_cases z : i < os.length
    · exact Or.inr (by rw [← e0]; exact endAt_zero _ _ i (by omega) z)
    · exact Or.inl (List.getElem?_eq_none (by omega))
theorem set_map {α : Type} (g : O → α) (os : List O) (s : Nat) (o p : O) (hs : os[s]? = some o) (h : g p = g o) : (os.set s p).map g = os.map g := by
  rw [List.map_set, h]
  apply List.ext_getElem?
  intro i
  by_cases e : i = s
  · subst e
    rw [List.getElem?_set_self (by simp; exact (List.getElem?_eq_some_iff.1 hs).1), List.getElem?_map, hs]; rfl
  · rw [List.getElem?_set_ne (fun x => e x.symm)]
theorem psize_map (os : List O) : psize os = (os.map fun o => if o.live then 11 + (o.delta.size : Int) else 1).foldl (· + ·) 16 := by
  unfold psize; rw [List.foldl_map]
theorem all_map (os : List O) : os.all okO = (os.map okO).all id := by simp
theorem last_map (os : List O) : lastLive os = ((os.map (·.live)).getLast?.getD true) := by
  unfold lastLive; rw [List.getLast?_map]; cases os.getLast? <;> rfl
theorem cut_good {os : List O} {s : Nat} {o : O} (h : got os s = (o, true)) : may (os.set s { o with np := 0, ns := 0 }) = true ∧ ∀ i, i ≠ s → got os i = got (os.set s { o with np := 0, ns := 0 }) i := by
  obtain ⟨hat, hm, hl⟩ := got_inv h
  have hmf : may (os.set s { o with np := 0, ns := 0 }) = true := by
    rw [← hm]
    have e2 : lastLive (os.set s { o with np := 0, ns := 0 }) = lastLive os := by rw [last_map, last_map, set_map (·.live) os s o { o with np := 0, ns := 0 } hat rfl]
    have e3 : (os.set s { o with np := 0, ns := 0 }).all okO = os.all okO := by rw [all_map, all_map, set_map okO os s o { o with np := 0, ns := 0 } hat (by unfold okO; simp only [hl, Bool.true_or])]
    have e4 : psize (os.set s { o with np := 0, ns := 0 }) = psize os := by rw [psize_map, psize_map, set_map (fun o => if o.live then 11 + (o.delta.size : Int) else 1) os s o { o with np := 0, ns := 0 } hat rfl]
    unfold may; rw [List.length_set, e2, e3, e4]
  exact ⟨hmf, fun i hi => got_same hm hmf i (List.getElem?_set_ne (fun e => hi e.symm))⟩
end Go.Proofs.Ytddhjkgefninbaa
