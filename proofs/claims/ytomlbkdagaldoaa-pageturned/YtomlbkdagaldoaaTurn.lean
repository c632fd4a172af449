/-
  Plain facts: a payload in which some bits were turned, all within 32 side by side behind its sum, is no page's.
-/
import Derived.Test.YtomlbkdagaldoaaBurst
import Derived.Test.YtomlbkdagaldoaaKind
namespace Go.Proofs.Ytomlbkdagaldoaa
open Go.ChangeShapes Go.WideShapes Go.ChangeAt Go.RowKit
set_option linter.unusedVariables false
set_option linter.unusedSimpArgs false

/-- A byte that is turned. -/
def xb (a : Int) (X i : Nat) : Int := ((a.toNat ^^^ (X / 2 ^ (8 * i) % 256) : Nat) : Int)
theorem xb_lt (a : Int) (X i : Nat) (h : 0 ≤ a ∧ a ≤ 255) : 0 ≤ xb a X i ∧ xb a X i ≤ 255 := by
  have : a.toNat ^^^ (X / 2 ^ (8 * i) % 256) < 2 ^ 8 := Nat.xor_lt_two_pow (by omega) (by omega)
  unfold xb; omega
theorem xb_code (a : Int) (X j : Nat) (h : 0 ≤ a ∧ a ≤ 255) : bits .xor .u8 a ((X : Int) / 2 ^ (8 * j) % 256) = xb a X j := by
  have e : (X : Int) / 2 ^ (8 * j) % 256 = ((X / 2 ^ (8 * j) % 256 : Nat) : Int) := by simp
  obtain ⟨n, rfl⟩ := Int.eq_ofNat_of_zero_le h.1
  rw [e, u8_xor_nat _ _ (by omega) (by omega)]
  rfl
/-- The payload when j of the five bytes from p on have been turned. -/
def flp (l : List Int) (p X j : Nat) : List Int := fl 224 fun i => if p ≤ i ∧ i < p + j then xb (l.getD i 0) X (i - p) else l.getD i 0
theorem flp_length (l : List Int) (p X j : Nat) : (flp l p X j).length = 224 := fl_length _ _
theorem flp_at (l : List Int) (p X j i : Nat) (hi : i < 224) : (flp l p X j).getD i 0 = if p ≤ i ∧ i < p + j then xb (l.getD i 0) X (i - p) else l.getD i 0 := fl_at _ _ _ hi
theorem flp_zero (l : List Int) (p X : Nat) (hl : l.length = 224) : flp l p X 0 = l := by
  symm
  apply eq_fl _ _ _ hl
  intro j hj
  rw [if_neg (by omega)]
theorem flp_set (l : List Int) (p X j : Nat) (h : p + j < 224) : (flp l p X j).set (p + j) (xb (l.getD (p + j) 0) X j) = flp l p X (j + 1) := by
  unfold flp
  rw [set_fl]
  apply eq_fl _ _ _ (fl_length _ _)
  intro i hi
  rw [fl_at _ _ _ hi]
  by_cases e : i = p + j
  · subst e
    rw [if_pos rfl, if_pos (by omega), show p + j - p = j by omega]
  · rw [if_neg e]
    by_cases c : p ≤ i ∧ i < p + j
    · rw [if_pos c, if_pos (by omega)]
    · rw [if_neg c, if_neg (by omega)]
theorem flp_bytes (l : List Int) (p X j : Nat) (hb : Bytes l) : Bytes (flp l p X j) := by
  apply fl_bytes
  intro i _
  split
  · exact xb_lt _ _ _ (hb.at i)
  · exact hb.at i
/-- A payload with noughts where its sum stands. -/
def bare (q : List Int) : List Int := splice q 3 (zs 4)
theorem bare_at (q : List Int) (hq : q.length = 224) (i : Nat) : (bare q).getD i 0 = if 3 ≤ i ∧ i < 7 then 0 else q.getD i 0 := by
  unfold bare
  rw [splice_getD _ _ _ _ (by rw [zs_length]; omega), zs_length, zs_getD]
  by_cases h1 : i < 3
  · rw [if_pos h1, if_neg (by omega)]
  · by_cases h2 : i < 7
    · rw [if_neg h1, if_pos (by omega), if_pos (by omega)]
    · rw [if_neg h1, if_neg (by omega), if_neg (by omega)]
theorem bare_length (q : List Int) (hq : q.length = 224) : (bare q).length = 224 := by unfold bare; rw [length_splice _ _ _ (by rw [zs_length]; omega), hq]
theorem bare_bytes (q : List Int) (h : Bytes q) : Bytes (bare q) := h.splicing _ (zs_bytes _)
theorem head_sum (k no lsn : Int) (t : List Int) (j : Nat) (hj : j < 4) : (headT k no lsn ++ t).getD (3 + j) 0 = 0 := by
  rw [getD_left (by rw [headT_length]; omega)]
  unfold headT
  have e : (low k 1 ++ low no 2).length = 3 := by simp [low_length]
  have e2 : (low k 1 ++ low no 2 ++ low 0 4).length = 7 := by simp [low_length]
  rw [getD_left (by rw [e2]; omega), getD_right (by rw [e]; omega), e, show 3 + j - 3 = j by omega, low_getD _ _ _ hj]
  simp
/-- What stands where a payload has its sum. -/
theorem payT_sum (k no lsn : Int) (t : List Int) (ht : t.length ≤ 209) (j : Nat) (hj : j < 4) : (payT k no lsn t).getD (3 + j) 0 = sumT (bare (payT k no lsn t)) / 2 ^ (8 * j) % 256 := by
  have hl : (headT k no lsn ++ t).length ≤ 224 := by rw [List.length_append, headT_length]; omega
  have hql := padT_length (headT k no lsn ++ t) hl
  have e : bare (payT k no lsn t) = padT (headT k no lsn ++ t) := by
    apply list_ext _ _ 224 (bare_length _ (payT_length _ _ _ _ ht)) hql
    intro i hi
    rw [bare_at _ (payT_length _ _ _ _ ht), padT_at _ hl]
    by_cases c : 3 ≤ i ∧ i < 7
    · rw [if_pos c, show i = 3 + (i - 3) by omega, head_sum _ _ _ _ _ (by omega)]
    · rw [if_neg c, payT_at _ _ _ _ ht _ (by omega)]
  rw [e]
  unfold payT sealT
  rw [splice_getD _ _ _ _ (by rw [low_length]; omega), low_length, if_neg (by omega), if_pos (by omega), show 3 + j - 3 = j by omega, low_getD _ _ _ hj]
theorem ofNat_xor (a b : Nat) : BitVec.ofNat 32 (a ^^^ b) = BitVec.ofNat 32 a ^^^ BitVec.ofNat 32 b := by
  apply BitVec.eq_of_getLsbD_eq
  intro i hi
  simp [BitVec.getLsbD_ofNat, Nat.testBit_xor, hi]
theorem bAt_tx (l : List Int) (hb : Bytes l) (i : Nat) (hi : i < l.length) : bAt (strOfNums l) i = BitVec.ofNat 32 (l.getD i 0).toNat := by
  have hs : i < (strOfNums l).size := by rw [strOfNums_size]; exact hi
  have := byteAt_tx hb i
  rw [byteAt_in _ _ hs] at this
  unfold bAt
  rw [dif_pos hs, ← this]
  rfl
/-- No burst behind the sum goes unseen. -/
theorem turned_other (P Q : List Int) (hP : P.length = 224) (hQ : Bytes P) (p X : Nat) (r : BitVec 32) (t : Nat) (ht : t < 8) (hr : r ≠ 0#32) (h7 : 7 ≤ p) (hp : p + 5 ≤ 224) (hX : X = r.toNat * 2 ^ t) :
    sumT (bare (flp P p X 5)) ≠ sumT (bare P) := by
  intro h
  have hl := flp_length P p X 5
  have hb := flp_bytes P p X 5 hQ
  have h0 := u_inj h
  unfold more at h0
  have h1 := congrArg (fun x : BitVec 32 => ~~~ x) h0
  simp only [BitVec.not_not] at h1
  rw [strOfNums_size, strOfNums_size, bare_length _ hl, bare_length _ hP] at h1
  refine seen (bAt (strOfNums (bare P))) (bAt (strOfNums (bare (flp P p X 5)))) 224 p r _ t ht hr hp ?_ h1
  intro i hi
  rw [bAt_tx _ (bare_bytes _ hb) i (by rw [bare_length _ hl]; exact hi), bAt_tx _ (bare_bytes _ hQ) i (by rw [bare_length _ hP]; exact hi), bare_at _ hl, bare_at _ hP]
  unfold turnedIn dByte
  by_cases c : 3 ≤ i ∧ i < 7
  · rw [if_pos c, if_pos c, if_neg (by omega), BitVec.xor_zero]
  · rw [if_neg c, if_neg c, flp_at _ _ _ _ _ hi]
    by_cases d : p ≤ i ∧ i < p + 5
    · rw [if_pos d, if_pos d, hX]
      unfold xb
      rw [Int.toNat_natCast, ofNat_xor]
    · rw [if_neg d, if_neg d, BitVec.xor_zero]
theorem turned_not (k no lsn : Int) (s : List Int) (hs : s.length ≤ 209) (hsb : Bytes s) (k' no' lsn' : Int) (s' : List Int) (hs' : s'.length ≤ 209) (p X : Nat) (r : BitVec 32) (t : Nat) (ht : t < 8) (hr : r ≠ 0#32) (h7 : 7 ≤ p) (hp : p + 5 ≤ 224) (hX : X = r.toNat * 2 ^ t) :
    payT k' no' lsn' s' ≠ flp (payT k no lsn s) p X 5 := by
  intro h
  have hl := payT_length k no lsn s hs
  refine turned_other (payT k no lsn s) [] hl (payT_bytes _ _ _ _ hsb) p X r t ht hr h7 hp hX ?_
  have g : ∀ j, j < 4 → sumT (bare (flp (payT k no lsn s) p X 5)) / 2 ^ (8 * j) % 256 = sumT (bare (payT k no lsn s)) / 2 ^ (8 * j) % 256 := fun j hj => by
    have a := payT_sum k no lsn s hs j hj
    have b := payT_sum k' no' lsn' s' hs' j hj
    rw [h] at b
    rw [← a, ← b, flp_at _ _ _ _ _ (by omega), if_neg (by omega)]
  have g0 := g 0 (by omega)
  have g1 := g 1 (by omega)
  have g2 := g 2 (by omega)
  have g3 := g 3 (by omega)
  have f1 := sumT_fits (bare (flp (payT k no lsn s) p X 5))
  have f2 := sumT_fits (bare (payT k no lsn s))
  generalize sumT (bare (flp (payT k no lsn s) p X 5)) = a at *
  generalize sumT (bare (payT k no lsn s)) = b at *
  simp at g0 g1 g2 g3
  omega
/-- A page in which some bits were turned is none. -/
theorem turned_none (k no lsn : Int) (s : List Int) (hs : s.length ≤ 209) (hsb : Bytes s) (u : Bool) (on : Int) (p X : Nat) (r : BitVec 32) (t : Nat) (ht : t < 8) (hr : r ≠ 0#32) (h7 : 7 ≤ p) (hp : p + 5 ≤ 224) (hX : X = r.toNat * 2 ^ t) :
    isP u on (flp (payT k no lsn s) p X 5) = false := by
  have hfl := flp_length (payT k no lsn s) p X 5
  have hfb := flp_bytes (payT k no lsn s) p X 5 (payT_bytes _ _ _ _ hsb)
  cases u
  · show isD on _ = false
    unfold isD
    apply decide_eq_false
    intro h
    exact turned_not k no lsn s hs hsb 1 on _ _ (by rw [dataT_length _ (dOf_ok _ hfl hfb).len]; omega) p X r t ht hr h7 hp hX h
  · show isU on _ = false
    unfold isU
    cases hm : may (uOf (flp (payT k no lsn s) p X 5))
    · rfl
    · rw [Bool.and_eq_false_iff]
      right
      apply decide_eq_false
      intro h
      rw [putU_may _ _ _ hm] at h
      exact turned_not k no lsn s hs hsb 2 on _ _ (undoT_le _ hm) p X r t ht hr h7 hp hX h
end Go.Proofs.Ytomlbkdagaldoaa
