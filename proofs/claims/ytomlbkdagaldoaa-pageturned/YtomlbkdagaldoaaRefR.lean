/-
  Plain facts: how the document reads an undo page's records (varveref06.GetUndo), and that it comes to the same as the program's reading.
-/
import Derived.Test.YtomlbkdagaldoaaBack
import Derived.Test.YtomlbkdagaldoaaRefG
namespace Go.Proofs.Ytomlbkdagaldoaa
open Go.ChangeShapes Go.WideShapes Go.ChangeAt Go.RowKit
set_option linter.unusedVariables false
set_option linter.unusedSimpArgs false

/-- Whether a live record is read at a place. -/
def liveAt (p : List Int) (a : Nat) : Bool := decide (p.getD a 0 = 1) && decide (a ≤ 213)
/-- Whether its delta would go beyond the end. -/
def overAt (p : List Int) (a : Nat) : Bool := decide ((213 : Int) - a < p.getD (a + 10) 0)
def rNew (p : List Int) (a : Nat) : O := if liveAt p a then oAt p a else O.zero
def rNext (p : List Int) (a : Nat) : Nat := if liveAt p a then a + 11 + (p.getD (a + 10) 0).toNat else a + 1
def rBad (p : List Int) (a : Nat) : Bool := liveAt p a && overAt p a
/-- The records after k rounds, and the place; none: it gave up. -/
def rO (p : List Int) : Nat → Option (List O × Nat)
  | 0 => some ([], 16)
  | k + 1 => match rO p k with
    | none => none
    | some (l, a) => if a < 224 then (if rBad p a then none else some (l ++ [rNew p a], rNext p a)) else some (l, a)
theorem rO_stay (p : List Int) (l : List O) (a : Nat) (ha : 224 ≤ a) (k : Nat) (h : rO p k = some (l, a)) : ∀ j, rO p (k + j) = some (l, a)
  | 0 => h
  | j + 1 => by
    show (match rO p (k + j) with | none => none | some (l, a) => if a < 224 then (if rBad p a then none else some (l ++ [rNew p a], rNext p a)) else some (l, a)) = _
    rw [rO_stay p l a ha k h j]
    simp; omega
theorem rO_none (p : List Int) (k : Nat) (h : rO p k = none) : ∀ j, rO p (k + j) = none
  | 0 => h
  | j + 1 => by
    show (match rO p (k + j) with | none => none | some (l, a) => if a < 224 then (if rBad p a then none else some (l ++ [rNew p a], rNext p a)) else some (l, a)) = _
    rw [rO_none p k h j]
theorem rO_end (p : List Int) (l : List O) (a k n : Nat) (h : rO p k = some (l, a)) (hk : k ≤ n) (he : k = n ∨ 224 ≤ a) : rO p n = some (l, a) := by
  rcases he with rfl | he
  · exact h
  · obtain ⟨j, rfl⟩ := Nat.exists_eq_add_of_le hk
    exact rO_stay p l a he k h j
theorem rO_bad (p : List Int) (l : List O) (a k n : Nat) (h : rO p k = some (l, a)) (hk : k < n) (ha : a < 224) (hb : rBad p a = true) : rO p n = none := by
  have h1 : rO p (k + 1) = none := by
    show (match rO p k with | none => none | some (l, a) => if a < 224 then (if rBad p a then none else some (l ++ [rNew p a], rNext p a)) else some (l, a)) = _
    rw [h]; simp [ha, hb]
  obtain ⟨j, rfl⟩ := Nat.exists_eq_add_of_le (show k + 1 ≤ n by omega)
  exact rO_none p _ h1 j
theorem rO_step (p : List Int) (l : List O) (a k : Nat) (h : rO p k = some (l, a)) (ha : a < 224) (hb : rBad p a = false) : rO p (k + 1) = some (l ++ [rNew p a], rNext p a) := by
  show (match rO p k with | none => none | some (l, a) => if a < 224 then (if rBad p a then none else some (l ++ [rNew p a], rNext p a)) else some (l, a)) = _
  rw [h]; simp [ha, hb]
theorem rO_fits (p : List Int) : ∀ k l a, rO p k = some (l, a) → (∀ o ∈ l, o.Fits) ∧ l.length ≤ k
  | 0, l, a, h => by
    have : l = [] := by simp [rO] at h; exact h.1
    subst this; simp
  | k + 1, l, a, h => by
    have h' : (match rO p k with | none => none | some (l, a) => if a < 224 then (if rBad p a then none else some (l ++ [rNew p a], rNext p a)) else some (l, a)) = some (l, a) := h
    cases hr : rO p k with
    | none => rw [hr] at h'; simp at h'
    | some x =>
      obtain ⟨l0, a0⟩ := x
      obtain ⟨i1, i2⟩ := rO_fits p k l0 a0 hr
      rw [hr] at h'
      simp only at h'
      split at h'
      · split at h'
        · simp at h'
        · simp only [Option.some.injEq, Prod.mk.injEq] at h'
          rw [← h'.1]
          refine ⟨fun o ho => ?_, by simp; omega⟩
          rcases List.mem_append.1 ho with q | q
          · exact i1 o q
          · rw [List.mem_singleton.1 q]
            unfold rNew; split
            · exact oAt_fits p _
            · exact O.zero_fits
      · simp only [Option.some.injEq, Prod.mk.injEq] at h'
        rw [← h'.1]
        exact ⟨i1, by omega⟩
theorem rO_put (no lsn : Int) (os : List O) (hm : may os = true) (hf : ∀ o ∈ os, o.Fits) (p : List Int) (hp : p = payT 2 no lsn (undoT os)) : ∀ k, k ≤ os.length → rO p k = some (os.take k, 16 + (oldsT (os.take k)).length)
  | 0, _ => by simp [rO, oldsT]
  | k + 1, hk => by
    have ih := rO_put no lsn os hm hf p hp k (by omega)
    have hul := undoT_le os hm
    have hok := (may_small hm).2.2.1
    have he : os[k]? = some os[k] := by simp [show k < os.length by omega]
    have hmem : os[k] ∈ os := List.getElem_mem _
    have hsp := oldsT_split os k _ he
    have hpl : p.length = 224 := by rw [hp]; exact payT_length _ _ _ _ hul
    have hpb : Bytes p := by rw [hp]; exact payT_bytes _ _ _ _ (undoT_bytes os)
    have hlen : (undoT os).length = 1 + (oldsT (os.take k)).length + ((oldT os[k]).length + (oldsT (os.drop (k + 1))).length) := by
      unfold undoT
      rw [hsp]; simp [low_length]; omega
    have hat : ∀ i, i < (oldT os[k]).length → p.getD (16 + (oldsT (os.take k)).length + i) 0 = (oldT os[k]).getD i 0 := by
      intro i hi
      rw [hp, payT_at _ _ _ _ hul _ (by omega), show 16 + (oldsT (os.take k)).length + i = 15 + (1 + (oldsT (os.take k)).length + i) by omega, head_text]
      unfold undoT
      rw [hsp, ← List.append_assoc, part_at _ _ _ (1 + (oldsT (os.take k)).length) (by simp [low_length]) i hi]
    obtain ⟨h1, h2⟩ := oAt_of p hpb (16 + (oldsT (os.take k)).length) os[k] (hf _ hmem) (hok _ hmem) (by rw [hpl]; omega) hat
    have hol := oldT_length os[k]
    have hs : (oldsT (os.take (k + 1))).length = (oldsT (os.take k)).length + (oldT os[k]).length := by rw [oldsT_snoc os k _ he, List.length_append]
    have ht : os.take (k + 1) = os.take k ++ [os[k]] := by rw [List.take_add_one, he]; rfl
    obtain ⟨a, HA⟩ : ∃ a, 16 + (oldsT (os.take k)).length = a := ⟨_, rfl⟩
    rw [HA] at ih hat h1 h2
    have hk' := hok _ hmem
    unfold okO at hk'
    simp only [Bool.and_eq_true, Bool.or_eq_true, decide_eq_true_eq] at hk'
    have ha : a + (oldT os[k]).length ≤ 224 := by omega
    cases hlv : (os[k]).live with
    | false =>
      have hz : os[k] = O.zero := by rcases hk'.1 with q | q
                                     · rw [hlv] at q; cases q
                                     · exact q
      have hl1 : (oldT os[k]).length = 1 := by rw [hol, hlv]; rfl
      have h0 : p.getD a 0 = 0 := by have := hat 0 (by omega); rw [Nat.add_zero] at this; rw [this, hz]; rfl
      have hla : liveAt p a = false := by unfold liveAt; rw [h0]; rfl
      rw [rO_step p _ a k ih (by omega) (by unfold rBad; rw [hla]; rfl), ht, hz]
      unfold rNew rNext
      rw [hla, if_neg (by decide), if_neg (by decide)]
      rw [ht, hl1, hz] at hs
      rw [hs, ← Nat.add_assoc, HA]
    | true =>
      have hl1 : (oldT os[k]).length = 11 + os[k].delta.size := by rw [hol, hlv]; rfl
      have h0 : p.getD a 0 = 1 := by have := hat 0 (by omega); rw [Nat.add_zero] at this; rw [this, old_kind _ hlv]
      have h10 : p.getD (a + 10) 0 = os[k].delta.size := by
        rw [hat 10 (by omega)]
        have := old_size _ hlv 0 (by omega)
        rw [Nat.add_zero] at this
        rw [this]
        have := hk'.2
        simp; omega
      have hla : liveAt p a = true := by unfold liveAt; rw [h0]; simp; omega
      have hov : overAt p a = false := by unfold overAt; rw [h10]; simp; omega
      rw [rO_step p _ a k ih (by omega) (by unfold rBad; rw [hla, hov]; rfl)]
      unfold rNew rNext
      rw [hla, if_pos rfl, if_pos rfl, h1, h10, hs, ht, hl1, Int.toNat_natCast]
      congr 2
      omega
/-- Whether the document tells a payload as that undo page's. -/
def rIs (no : Int) (p : List Int) : Bool := match rO p (cntU p) with
  | none => false
  | some (l, _) => may l && decide (putU no (lsnOf p) l = p)
theorem rIs_true (no : Int) (p : List Int) (h : isU no p = true) : ∃ a, rO p (cntU p) = some (uOf p, a) := by
  unfold isU at h
  simp only [Bool.and_eq_true, decide_eq_true_eq] at h
  obtain ⟨hm, hp⟩ := h
  rw [putU_may _ _ _ hm] at hp
  have hl : (uOf p).length = cntU p := readO_length p 16 (cntU p)
  have := rO_put no (lsnOf p) (uOf p) hm (readO_fits p 16 _) p hp.symm (uOf p).length (Nat.le_refl _)
  rw [List.take_length, hl] at this
  exact ⟨_, this⟩
theorem rIs_eq (no : Int) (p : List Int) : rIs no p = isU no p := by
  cases h : isU no p with
  | true =>
    obtain ⟨a, ha⟩ := rIs_true no p h
    unfold rIs
    rw [ha]
    unfold isU at h
    simp only [Bool.and_eq_true, decide_eq_true_eq] at h
    simp [h.1, h.2]
  | false =>
    unfold rIs
    cases hr : rO p (cntU p) with
    | none => rfl
    | some x =>
      obtain ⟨l, a⟩ := x
      simp only
      rw [Bool.eq_false_iff]
      intro q
      simp only [Bool.and_eq_true, decide_eq_true_eq] at q
      obtain ⟨hm, hp⟩ := q
      have hf := (rO_fits p _ l a hr).1
      have hp2 := hp
      rw [putU_may _ _ _ hm] at hp2
      have hu : uOf p = l := by
        have := uOf_put no (lsnOf p) l hm hf
        rw [hp2] at this; exact this
      have : isU no p = true := by unfold isU; rw [hu, hm, hp]; simp
      rw [this] at h; cases h
end Go.Proofs.Ytomlbkdagaldoaa
