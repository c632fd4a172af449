/-
  Plain facts on pages: what Add, Free and Get come to, one behind the other.
-/
import Derived.Test.YtddhjkgefninbaaAwake
namespace Go.Proofs.Ytddhjkgefninbaa
open Go.ChangeShapes Go.WideShapes Go.ChangeAt Go.RowKit
set_option linter.unusedVariables false
set_option linter.unusedSimpArgs false
set_option maxRecDepth 20000

def addE (os : List O) (o : O) : Int := if fit os o then if may (added os o) then 0 else 5 else 1
def addL (lsn : Int) (os : List O) (o : O) : Int := if addE os o = 0 then lsn else 0
def addR (os : List O) (o : O) : List O := if addE os o = 0 then added os o else []
def addS (os : List O) (o : O) : Int := if addE os o = 0 then spareAt os else 0
theorem addE_ok {os : List O} {o : O} (h : addE os o = 0) : fit os o = true ∧ may (added os o) = true := by
  unfold addE at h
  split at h
  · rename_i q
    split at h
    · rename_i q'; exact ⟨q, q'⟩
    · omega
  · omega
theorem add_any (lsn : Int) (v : Value) (os : List O) (o : O) (w : World) (ho : Olds w v os) :
    Calls Try.prog 21 #[.agg #[.int .u64 lsn, v], .agg o.arr] w fun e w' => AnsA w (addL lsn os o) (addR os o) (addS os o) (addE os o) e w' := by
  cases hf : fit os o
  · have e : addE os o = 1 := by unfold addE; rw [hf]; rfl
    have := add_bad lsn v os o w ho hf
    unfold addL addR addS
    rw [e]
    exact this
  · refine add_fit lsn v os o w ho hf _ _ _ _ ⟨fun h => ?_, fun h => ?_⟩
    · have e : addE os o = 0 := by unfold addE; rw [hf, h]; rfl
      unfold addL addR addS
      rw [e]
      exact ⟨rfl, rfl, rfl, rfl⟩
    · have e : addE os o = 5 := by unfold addE; rw [hf, h]; rfl
      unfold addL addR addS
      rw [e]
      exact ⟨rfl, rfl, rfl, rfl⟩
def freeE (os : List O) (s : Nat) : Int := if (got os s).2 then 0 else 1
theorem spare_is (os : List O) (h : spareAt os ≠ os.length) : os[spareAt os]? = some O.zero := by
  have hl := spare_lt os h
  have : os.findIdx (fun o => decide (o = O.zero)) < os.length := hl
  have := List.findIdx_getElem (w := this)
  rw [List.getElem?_eq_getElem hl]
  have e := of_decide_eq_true this
  exact congrArg some e
theorem added_at (os : List O) (o : O) : (added os o)[spareAt os]? = some o := by
  unfold added
  by_cases h : spareAt os = os.length
  · rw [if_pos h, h]; simp
  · rw [if_neg h, List.getElem?_set_self (spare_lt os h)]
theorem added_other (os : List O) (o : O) (i : Nat) (hi : i ≠ spareAt os) : (added os o)[i]? = os[i]? := by
  unfold added
  by_cases h : spareAt os = os.length
  · rw [if_pos h]
    by_cases q : i < os.length
    · rw [List.getElem?_append_left q]
    · rw [List.getElem?_eq_none (by simp; omega), List.getElem?_eq_none (by omega)]
  · rw [if_neg h, List.getElem?_set_ne (fun e => hi e.symm)]
theorem added_got {os : List O} {o : O} (h : addE os o = 0) : got (added os o) (spareAt os) = (o, true) := by
  obtain ⟨hf, hm⟩ := addE_ok h
  unfold fit at hf
  simp only [Bool.and_eq_true] at hf
  unfold got
  rw [added_at]
  simp only
  rw [if_pos (by rw [hm, hf.1.2]; rfl)]
theorem live_ne {o : O} (h : o.live = true) : o ≠ O.zero := by rintro rfl; cases h
theorem endAt_live {os : List O} {n : Nat} (h : n = 0 ∨ ∃ o, os[n - 1]? = some o ∧ o ≠ O.zero) : endAt os n = n := by
  cases n with
  | zero => rfl
  | succ m =>
    rcases h with h | ⟨o, h1, h2⟩
    · omega
    · rw [endAt_succ, if_neg (by rw [show m + 1 - 1 = m by omega] at h1; rw [h1]; simpa using h2)]
theorem may_end {os : List O} (h : may os = true) : os.length = 0 ∨ ∃ o, os[os.length - 1]? = some o ∧ o ≠ O.zero := by
  have hl := (may_small h).2.1
  unfold lastLive at hl
  rw [List.getLast?_eq_getElem?] at hl
  cases q : os[os.length - 1]? with
  | none =>
    have : os.length ≤ os.length - 1 := by simpa using q
    exact Or.inl (by omega)
  | some o => rw [q] at hl; exact Or.inr ⟨o, rfl, live_ne hl⟩
theorem freed_added {os : List O} {o : O} (h : addE os o = 0) : freed (added os o) (spareAt os) = os := by
  obtain ⟨hf, hm⟩ := addE_ok h
  unfold fit at hf
  simp only [Bool.and_eq_true] at hf
  have hme := may_end hf.1.1
  unfold freed
  by_cases q : spareAt os = os.length
  · have e1 : added os o = os ++ [o] := by unfold added; rw [if_pos q]
    have e2 : (added os o).set (spareAt os) O.zero = os ++ [O.zero] := by rw [e1, q]; simp
    have e3 : (added os o).length = os.length + 1 := by rw [e1]; simp
    rw [e2, e3, endAt_succ, if_pos (by simp), endAt_live (by
      rcases hme with hme | ⟨p, h1, h2⟩
      · exact Or.inl hme
      · refine Or.inr ⟨p, ?_, h2⟩
        have hlt : os.length - 1 < os.length := (List.getElem?_eq_some_iff.1 h1).1
        rw [List.getElem?_append_left hlt]; exact h1)]
    simp
  · have e1 : added os o = os.set (spareAt os) o := by unfold added; rw [if_neg q]
    have e2 : (added os o).set (spareAt os) O.zero = os := by
      rw [e1, List.set_set]
      have := spare_is os q
      apply List.ext_getElem?
      intro i
      by_cases e : i = spareAt os
      · subst e; rw [List.getElem?_set_self (spare_lt os q), this]
      · rw [List.getElem?_set_ne (fun x => e x.symm)]
    have e3 : (added os o).length = os.length := by rw [e1]; simp
    rw [e2, e3, endAt_live hme, List.take_length]
theorem fold_add (f : O → Int) : ∀ (os : List O) (z : Int), os.foldl (fun n o => n + f o) z = z + os.foldl (fun n o => n + f o) 0
  | [], z => by simp
  | o :: r, z => by
    simp only [List.foldl_cons]
    rw [fold_add f r (z + f o), fold_add f r (0 + f o)]; omega
theorem fold_set (f : O → Int) : ∀ (os : List O) (k : Nat) (p o : O), os[k]? = some p → (os.set k o).foldl (fun n o => n + f o) 0 = os.foldl (fun n o => n + f o) 0 - f p + f o
  | [], k, p, o, h => by simp at h
  | q :: r, 0, p, o, h => by
    simp at h; subst h
    simp only [List.set_cons_zero, List.foldl_cons]
    rw [fold_add f r (0 + f o), fold_add f r (0 + f q)]; omega
  | q :: r, k + 1, p, o, h => by
    simp at h
    simp only [List.set_cons_succ, List.foldl_cons]
    rw [fold_add f (r.set k o) (0 + f q), fold_add f r (0 + f q), fold_set f r k p o h]; omega
theorem live_added {os : List O} {o : O} (hl : o.live = true) : liveN (added os o) = liveN os + 1 := by
  unfold added
  by_cases q : spareAt os = os.length
  · rw [if_pos q]
    unfold liveN
    rw [List.foldl_append]
    simp [hl]
  · rw [if_neg q]
    unfold liveN
    have e := fold_set (fun o => if o.live then (1 : Int) else 0) os (spareAt os) O.zero o (spare_is os q)
    have e0 : (if O.zero.live = true then (1 : Int) else 0) = 0 := rfl
    simp only [hl, if_true, e0] at e
    rw [e]; omega
end Go.Proofs.Ytddhjkgefninbaa
