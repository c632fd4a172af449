/-
  Plain facts on undo pages: what was put is read again; unlike numbers and kinds have unlike payloads.
-/
import Derived.Test.YtihjapfgllokgabGetU
namespace Go.Proofs.Ytihjapfgllokgab
open Go.ChangeShapes Go.WideShapes Go.ChangeAt Go.RowKit
set_option linter.unusedVariables false
set_option linter.unusedSimpArgs false
set_option maxRecDepth 20000

theorem part_at (A B C : List Int) (n : Nat) (hA : A.length = n) (i : Nat) (hi : i < B.length) : (A ++ (B ++ C)).getD (n + i) 0 = B.getD i 0 := by
  subst hA
  rw [getD_right (by omega), show A.length + i - A.length = i by omega, getD_left hi]
/-- A live record's bytes, place by place. -/
theorem liveT_parts (o : O) (h : o.live = true) : oldT o = low 1 1 ++ (low o.page 2 ++ (low o.ts 4 ++ (low o.np 2 ++ (low o.ns 1 ++ (low o.delta.size 1 ++ nums o.delta))))) := by
  simp [oldT, h, liveT, refT, List.append_assoc]
theorem old_kind (o : O) (h : o.live = true) : (oldT o).getD 0 0 = 1 := by
  rw [liveT_parts o h, getD_left (by simp [low_length])]; simp [low]
theorem old_page (o : O) (h : o.live = true) (i : Nat) (hi : i < 2) : (oldT o).getD (1 + i) 0 = o.page / 2 ^ (8 * i) % 256 := by
  rw [liveT_parts o h, part_at _ _ _ 1 (by simp [low_length]) i (by rw [low_length]; exact hi), low_getD _ _ _ hi]
theorem old_ts (o : O) (h : o.live = true) (i : Nat) (hi : i < 4) : (oldT o).getD (3 + i) 0 = o.ts / 2 ^ (8 * i) % 256 := by
  have e : oldT o = (low 1 1 ++ low o.page 2) ++ (low o.ts 4 ++ (low o.np 2 ++ (low o.ns 1 ++ (low o.delta.size 1 ++ nums o.delta)))) := by rw [liveT_parts o h]; simp [List.append_assoc]
  rw [e, part_at _ _ _ 3 (by simp [low_length]) i (by rw [low_length]; exact hi), low_getD _ _ _ hi]
theorem old_np (o : O) (h : o.live = true) (i : Nat) (hi : i < 2) : (oldT o).getD (7 + i) 0 = o.np / 2 ^ (8 * i) % 256 := by
  have e : oldT o = (low 1 1 ++ (low o.page 2 ++ low o.ts 4)) ++ (low o.np 2 ++ (low o.ns 1 ++ (low o.delta.size 1 ++ nums o.delta))) := by rw [liveT_parts o h]; simp [List.append_assoc]
  rw [e, part_at _ _ _ 7 (by simp [low_length]) i (by rw [low_length]; exact hi), low_getD _ _ _ hi]
theorem old_ns (o : O) (h : o.live = true) (i : Nat) (hi : i < 1) : (oldT o).getD (9 + i) 0 = o.ns / 2 ^ (8 * i) % 256 := by
  have e : oldT o = (low 1 1 ++ (low o.page 2 ++ (low o.ts 4 ++ low o.np 2))) ++ (low o.ns 1 ++ (low o.delta.size 1 ++ nums o.delta)) := by rw [liveT_parts o h]; simp [List.append_assoc]
  rw [e, part_at _ _ _ 9 (by simp [low_length]) i (by rw [low_length]; exact hi), low_getD _ _ _ hi]
theorem old_size (o : O) (h : o.live = true) (i : Nat) (hi : i < 1) : (oldT o).getD (10 + i) 0 = (o.delta.size : Int) / 2 ^ (8 * i) % 256 := by
  have e : oldT o = (low 1 1 ++ (low o.page 2 ++ (low o.ts 4 ++ (low o.np 2 ++ low o.ns 1)))) ++ (low o.delta.size 1 ++ nums o.delta) := by rw [liveT_parts o h]; simp [List.append_assoc]
  rw [e, part_at _ _ _ 10 (by simp [low_length]) i (by rw [low_length]; exact hi), low_getD _ _ _ hi]
theorem old_delta (o : O) (h : o.live = true) (i : Nat) : (oldT o).getD (11 + i) 0 = (nums o.delta).getD i 0 := by
  have e : oldT o = (low 1 1 ++ (low o.page 2 ++ (low o.ts 4 ++ (low o.np 2 ++ (low o.ns 1 ++ low o.delta.size 1))))) ++ nums o.delta := by rw [liveT_parts o h]; simp [List.append_assoc]
  rw [e, getD_right (by simp [low_length])]
  congr 1
  simp [low_length]
/-- A record that stands in a text is read there. -/
theorem oAt_of (p : List Int) (hp : Bytes p) (a : Nat) (o : O) (hf : o.Fits) (hk : okO o = true) (hl : a + (oldT o).length ≤ p.length) (h : ∀ i, i < (oldT o).length → p.getD (a + i) 0 = (oldT o).getD i 0) :
    oAt p a = o ∧ oNext p a = a + (oldT o).length := by
  have hk' := hk
  unfold okO at hk'
  simp only [Bool.and_eq_true, Bool.or_eq_true, decide_eq_true_eq] at hk'
  cases hlv : o.live with
  | false =>
    have hz : o = O.zero := by rcases hk'.1 with q | q
                               · rw [hlv] at q; cases q
                               · exact q
    subst hz
    have hlen : (oldT O.zero).length = 1 := by rw [oldT_length]; rfl
    have e : getN (strOfNums p) a 1 = 0 := getN_tx hp 0 (by omega) a 1 (by omega) (by decide) fun i hi => by
      obtain rfl : i = 0 := by omega
      rw [h 0 (by omega)]; rfl
    unfold oAt oNext
    rw [e, if_pos rfl, if_pos rfl, hlen]
    exact ⟨rfl, rfl⟩
  | true =>
    have hlen : (oldT o).length = 11 + o.delta.size := by rw [oldT_length, hlv]; rfl
    rw [hlen] at h hl
    obtain ⟨f1, f2, f3, f4⟩ := hf
    have hd : o.delta.size ≤ 66 := hk'.2
    have e0 : getN (strOfNums p) a 1 = 1 := getN_tx hp 1 (by omega) a 1 (by omega) (by decide) fun i hi => by
      obtain rfl : i = 0 := by omega
      rw [h 0 (by omega), old_kind o hlv]; rfl
    have e1 : getN (strOfNums p) (a + 1) 2 = o.page := getN_tx hp _ f1.1 _ 2 (by omega) (by omega) fun i hi => by
      rw [Nat.add_assoc, h _ (by omega), old_page o hlv i hi]
    have e2 : getN (strOfNums p) (a + 3) 4 = o.ts := getN_tx hp _ f2.1 _ 4 (by omega) (by omega) fun i hi => by
      rw [Nat.add_assoc, h _ (by omega), old_ts o hlv i hi]
    have e3 : getN (strOfNums p) (a + 7) 2 = o.np := getN_tx hp _ f3.1 _ 2 (by omega) (by omega) fun i hi => by
      rw [Nat.add_assoc, h _ (by omega), old_np o hlv i hi]
    have e4 : getN (strOfNums p) (a + 9) 1 = o.ns := getN_tx hp _ f4.1 _ 1 (by omega) (by omega) fun i hi => by
      rw [Nat.add_assoc, h _ (by omega), old_ns o hlv i hi]
    have e5 : getN (strOfNums p) (a + 10) 1 = o.delta.size := getN_tx hp _ (by omega) _ 1 (by omega) (by omega) fun i hi => by
      rw [Nat.add_assoc, h _ (by omega), old_size o hlv i hi]
    have e6 : (p.drop (a + 11)).take o.delta.size = nums o.delta := by
      apply list_ext _ _ o.delta.size (by simp; omega) (nums_length _)
      intro i hi
      have := h (11 + i) (by omega)
      rw [old_delta o hlv] at this
      rw [← this]
      simp only [List.getD]
      rw [List.getElem?_take, if_pos hi, List.getElem?_drop, Nat.add_assoc]
    unfold oAt oNext
    rw [e0, e1, e2, e3, e4, e5, if_neg (by decide), if_neg (by decide), Int.toNat_natCast, e6, tx_nums, hlen]
    refine ⟨?_, by omega⟩
    cases o; simp_all
theorem oldsT_split (os : List O) (k : Nat) (o : O) (h : os[k]? = some o) : oldsT os = oldsT (os.take k) ++ (oldT o ++ oldsT (os.drop (k + 1))) := by
  have hk : k < os.length := (List.getElem?_eq_some_iff.1 h).1
  have e : os = os.take k ++ (o :: os.drop (k + 1)) := by
    have q := List.take_append_drop k os
    have q2 : os.drop k = o :: os.drop (k + 1) := by rw [List.drop_eq_getElem_cons hk]; congr 1; exact (List.getElem?_eq_some_iff.1 h).2
    rw [q2] at q; exact q.symm
  conv => lhs; rw [e]
  unfold oldsT
  rw [List.flatMap_append]; rfl
theorem readO_put (no lsn : Int) (os : List O) (hm : may os = true) (hf : ∀ o ∈ os, o.Fits) : ∀ k, k ≤ os.length → readO (payT 2 no lsn (undoT os)) 16 k = (os.take k, 16 + (oldsT (os.take k)).length)
  | 0, _ => by simp [readO, oldsT]
  | k + 1, hk => by
    have ih := readO_put no lsn os hm hf k (by omega)
    have hul := undoT_le os hm
    have hok := (may_small hm).2.2.1
    have he : os[k]? = some os[k] := by simp [show k < os.length by omega]
    have hmem : os[k] ∈ os := List.getElem_mem _
    have hsp := oldsT_split os k _ he
    have hlen : (undoT os).length = 1 + (oldsT (os.take k)).length + ((oldT os[k]).length + (oldsT (os.drop (k + 1))).length) := by
      unfold undoT
      rw [hsp]; simp [low_length]; omega
    have hat : ∀ i, i < (oldT os[k]).length → (payT 2 no lsn (undoT os)).getD (16 + (oldsT (os.take k)).length + i) 0 = (oldT os[k]).getD i 0 := by
      intro i hi
      rw [payT_at _ _ _ _ hul _ (by omega), show 16 + (oldsT (os.take k)).length + i = 15 + (1 + (oldsT (os.take k)).length + i) by omega, head_text]
      unfold undoT
      rw [hsp, ← List.append_assoc, part_at _ _ _ (1 + (oldsT (os.take k)).length) (by simp [low_length]) i hi]
    obtain ⟨h1, h2⟩ := oAt_of (payT 2 no lsn (undoT os)) (payT_bytes _ _ _ _ (undoT_bytes os)) (16 + (oldsT (os.take k)).length) os[k] (hf _ hmem) (hok _ hmem) (by rw [payT_length _ _ _ _ hul]; omega) hat
    show ((readO _ 16 k).1 ++ [oAt _ (readO _ 16 k).2], oNext _ (readO _ 16 k).2) = _
    rw [ih]
    simp only
    rw [h1, h2, oldsT_snoc os k _ he, List.take_add_one, he]
    simp; omega
theorem uOf_put (no lsn : Int) (os : List O) (hm : may os = true) (hf : ∀ o ∈ os, o.Fits) : uOf (payT 2 no lsn (undoT os)) = os := by
  have hul := undoT_le os hm
  have h15 := (may_small hm).1
  have hc : getN (strOfNums (payT 2 no lsn (undoT os))) 15 1 = os.length := getN_tx (payT_bytes _ _ _ _ (undoT_bytes os)) _ (by omega) 15 1 (by rw [payT_length _ _ _ _ hul]; omega) (by omega) fun i hi => by
    obtain rfl : i = 0 := by omega
    rw [payT_at _ _ _ _ hul _ (by omega), head_text]
    unfold undoT
    rw [getD_left (by rw [low_length]; omega), low_getD _ _ _ (by omega)]
  unfold uOf cntU
  rw [hc, Int.toNat_natCast, readO_put no lsn os hm hf _ (Nat.le_refl _), List.take_length]
theorem lsnOf_put (no lsn : Int) (os : List O) (hm : may os = true) (hl : 0 ≤ lsn ∧ lsn ≤ 18446744073709551615) : lsnOf (payT 2 no lsn (undoT os)) = lsn :=
  payT_lsn 2 no lsn _ (undoT_le os hm) (undoT_bytes os) hl
theorem putU_may (no lsn : Int) (os : List O) (hm : may os = true) : putU no lsn os = payT 2 no lsn (undoT os) := by unfold putU; rw [hm, if_pos rfl]
theorem isU_put (no on lsn : Int) (os : List O) (hm : may os = true) (hf : ∀ o ∈ os, o.Fits) (hl : 0 ≤ lsn ∧ lsn ≤ 18446744073709551615) (h1 : 0 ≤ no ∧ no ≤ 65535) (h2 : 0 ≤ on ∧ on ≤ 65535) :
    isU on (payT 2 no lsn (undoT os)) = decide (no = on) := by
  unfold isU
  rw [uOf_put no lsn os hm hf, lsnOf_put no lsn os hm hl, hm, putU_may _ _ _ hm]
  simp only [decide_true, Bool.true_and]
  apply decide_eq_decide.2
  constructor
  · intro h
    have q1 := payT_no 2 on lsn _ (undoT_le os hm) (undoT_bytes os) h2
    have q2 := payT_no 2 no lsn _ (undoT_le os hm) (undoT_bytes os) h1
    rw [h, q2] at q1
    exact q1
  · intro h; rw [h]
/-- An undo page's payload is no data page's. -/
theorem isD_undo (no on lsn : Int) (os : List O) (hm : may os = true) : isD on (payT 2 no lsn (undoT os)) = false := by
  unfold isD
  apply decide_eq_false
  intro h
  have hp := payT_length 2 no lsn _ (undoT_le os hm)
  have hb := payT_bytes 2 no lsn _ (undoT_bytes os)
  have h1 := putD_kind on (dOf (payT 2 no lsn (undoT os))) (dOf_ok _ hp hb)
  rw [h, payT_at _ _ _ _ (undoT_le os hm) _ (by omega), head_kind] at h1
  simp at h1
/-- A data page's payload is no undo page's. -/
theorem isU_data (no on : Int) (d : D) (hd : d.Ok) : isU on (putD no d) = false := by
  unfold isU
  cases hm : may (uOf (putD no d))
  · rfl
  · rw [Bool.and_eq_false_iff]
    right
    apply decide_eq_false
    intro h
    have h1 := putD_kind no d hd
    rw [← h] at h1
    unfold putU at h1
    rw [hm, if_pos rfl, payT_at _ _ _ _ (undoT_le _ hm) _ (by omega), head_kind] at h1
    simp at h1
end Go.Proofs.Ytihjapfgllokgab
