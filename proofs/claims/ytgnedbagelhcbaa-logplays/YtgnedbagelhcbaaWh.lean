/-
  Plain facts on frames one behind the other: they are told again, and of a stream that is cut just those that are whole.
-/
import Derived.Test.YtgnedbagelhcbaaJf
namespace Go.Proofs.Ytgnedbagelhcbaa
open Go.ChangeShapes Go.WideShapes Go.ChangeAt Go.RowKit
set_option linter.unusedVariables false
set_option linter.unusedSimpArgs false
theorem frS_yes {t : ByteArray} (h : okF t = true) : frS t = strOfNums (frT t) := by unfold frS; rw [h]; rfl
theorem frS_sizeW {t : ByteArray} (h : okF t = true) : (frS t).size = 6 + t.size := by rw [frS_yes h, strOfNums_size, frT_length]
theorem okF_fits {t : ByteArray} (h : okF t = true) : 1 ≤ t.size ∧ t.size ≤ 400 := by unfold okF at h; simpa using h
theorem low2 (t : ByteArray) (h : t.size ≤ 400) (k : Nat) (hk : k < 2) (l : List Int) (n : Nat) (hn : k < n) : ((frT t ++ l).take n).getD k 0 = (t.size : Int) / 2 ^ (8 * k) % 256 := by
  have e : ((frT t ++ l).take n).getD k 0 = (frT t ++ l).getD k 0 := by simp only [List.getD]; rw [List.getElem?_take, if_pos hn]
  rw [e, getD_left (by rw [frT_length]; omega)]
  unfold frT
  rw [List.append_assoc, getD_left (by rw [low_length]; exact hk), low_getD _ _ _ hk]
theorem cut_num (t : ByteArray) (h : t.size ≤ 400) (l : List Int) (hl : Bytes l) (n : Nat) (hn : 2 ≤ n) : frN (strOfNums ((frT t ++ l).take n)) = t.size := by
  have hb : Bytes ((frT t ++ l).take n) := ((frT_bytes t).append hl).sub fun y hy => List.mem_of_mem_take hy
  have e2 : (2 : Int) ^ (8 * 2) = 65536 := by decide
  have e := getN_tx hb (t.size : Int) (by omega) 0 2 (by rw [List.length_take, List.length_append, frT_length]; omega) (by rw [e2]; omega) (fun k hk => by rw [Nat.zero_add]; exact low2 t h k hk l n (by omega))
  unfold frN; rw [e]; rfl
theorem take_frT (t : ByteArray) (l : List Int) (n : Nat) (h : 6 + t.size ≤ n) : ((frT t ++ l).take n).take (6 + t.size) = frT t := by
  rw [List.take_take, Nat.min_eq_left h]
  have := frT_length t
  rw [← this, List.take_left]
theorem drop_frT (t : ByteArray) (l : List Int) (n : Nat) (h : 6 + t.size ≤ n) : ((frT t ++ l).take n).drop (6 + t.size) = l.take (n - (6 + t.size)) := by
  have := frT_length t
  rw [← this, List.take_append, List.drop_append, List.length_take]
  rw [show min n (frT t).length = (frT t).length by omega]
  simp
  omega
theorem frT_text (t : ByteArray) : (frT t).drop 6 = nums t := by
  unfold frT
  rw [List.drop_append_of_le_length (by simp [low_length])]
  have : (low (t.size : Int) 2 ++ low (u (more 0#32 t)) 4).drop 6 = [] := List.drop_eq_nil_of_le (by simp [low_length])
  rw [this]; rfl
theorem cut_yes {t : ByteArray} (h : okF t = true) (r : ByteArray) (n : Nat) (hn : 6 + t.size ≤ n) (hr : n ≤ 6 + t.size + r.size) :
    tx ((frS t ++ r).extract 0 n) = t :: tx (r.extract 0 (n - (6 + t.size))) := by
  have ht := okF_fits h
  have e0 : (frS t ++ r).extract 0 n = strOfNums ((frT t ++ nums r).take n) := by
    conv => lhs; rw [frS_yes h, ← tx_nums r]
    rw [tx_app, extract_tx, List.drop_zero]
  have eN : frN ((frS t ++ r).extract 0 n) = t.size := by rw [e0]; exact cut_num t ht.2 _ (nums_bytes r) n (by omega)
  have eS : ((frS t ++ r).extract 0 n).size = n := by rw [ByteArray.size_extract, ByteArray.size_append, frS_sizeW h]; omega
  have eX : frX ((frS t ++ r).extract 0 n) = t := by
    unfold frX
    rw [eN, e0, extract_tx, take_frT _ _ _ hn, frT_text, tx_nums]
  have eH : frH ((frS t ++ r).extract 0 n) = frS t := by
    unfold frH
    rw [eN, e0, extract_tx, take_frT _ _ _ hn, List.drop_zero, frS_yes h]
  have eR : frR ((frS t ++ r).extract 0 n) = r.extract 0 (n - (6 + t.size)) := by
    unfold frR
    rw [eN, eS, e0, extract_tx, List.take_of_length_le (by rw [List.length_take]; omega), drop_frT _ _ _ hn]
    conv => rhs; rw [← tx_nums r]
    rw [extract_tx, List.drop_zero]
  have hF : isF ((frS t ++ r).extract 0 n) = true := by
    unfold isF
    rw [eN, eS, eX, eH, decide_eq_true hn]; simp
  rw [tx_yes hF, eX, eR]
def cat : List ByteArray → ByteArray
  | [] => { data := #[] }
  | t :: r => frS t ++ cat r
theorem cat_snoc : ∀ (l : List ByteArray) (t : ByteArray), cat (l ++ [t]) = cat l ++ frS t
  | [], t => by
    show frS t ++ { data := #[] } = { data := #[] } ++ frS t
    apply ByteArray.ext; simp
  | a :: l, t => by
    show frS a ++ cat (l ++ [t]) = frS a ++ cat l ++ frS t
    rw [cat_snoc l t, ByteArray.append_assoc]
theorem cat_whole (l : List ByteArray) (h : ∀ t ∈ l, okF t = true) : tx (cat l) = l := by
  induction l with
  | nil => apply tx_no; decide
  | cons a l ih =>
    have ha := h a (by simp)
    have e := cut_yes ha (cat l) (6 + a.size + (cat l).size) (by omega) (Nat.le_refl _)
    rw [show 6 + a.size + (cat l).size - (6 + a.size) = (cat l).size by omega] at e
    have e1 : (frS a ++ cat l).extract 0 (6 + a.size + (cat l).size) = frS a ++ cat l := by
      rw [show 6 + a.size + (cat l).size = (frS a ++ cat l).size by rw [ByteArray.size_append, frS_sizeW ha]]
      exact ByteArray.extract_zero_size
    have e2 : (cat l).extract 0 (cat l).size = cat l := ByteArray.extract_zero_size
    rw [e1, e2, ih (fun t ht => h t (by simp [ht]))] at e
    exact e
end Go.Proofs.Ytgnedbagelhcbaa
