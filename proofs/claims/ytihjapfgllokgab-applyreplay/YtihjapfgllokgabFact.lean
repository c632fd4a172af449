/-
  Plain facts on payloads: what stands at each place; what was put is read again; unlike data pages have unlike payloads.
-/
import Derived.Test.YtihjapfgllokgabData
namespace Go.Proofs.Ytihjapfgllokgab
open Go.ChangeShapes Go.WideShapes Go.ChangeAt Go.RowKit
set_option linter.unusedVariables false
set_option linter.unusedSimpArgs false
set_option maxRecDepth 20000

theorem mod_mul_int (v p : Int) (hv : 0 ≤ v) (hp : 0 ≤ p) : v % p + v / p % 256 * p = v % (p * 256) := by
  obtain ⟨n, rfl⟩ := Int.eq_ofNat_of_zero_le hv
  obtain ⟨m, rfl⟩ := Int.eq_ofNat_of_zero_le hp
  have e : n % (m * 256) = n % m + (n / m) % 256 * m := by rw [Nat.mod_mul, Nat.mul_comm m]
  have e' : ((n % (m * 256) : Nat) : Int) = ((n % m + (n / m) % 256 * m : Nat) : Int) := by rw [e]
  simp only [Int.natCast_emod, Int.natCast_add, Int.natCast_mul, Int.natCast_ediv, Int.cast_ofNat_Int] at e'
  exact e'.symm
/-- The number of bytes that are a number's. -/
theorem num_tx {l : List Int} (hl : Bytes l) (v : Int) (hv : 0 ≤ v) (a : Nat) : ∀ n, (∀ k, k < n → l.getD (a + k) 0 = v / 2 ^ (8 * k) % 256) → num (strOfNums l) a n = v % 2 ^ (8 * n)
  | 0, _ => by simp [num, Int.emod_one]
  | n + 1, h => by
    have hp : (0 : Int) < 2 ^ (8 * n) := Int.pow_pos (by decide)
    rw [num, num_tx hl v hv a n (fun k hk => h k (by omega)), byteAt_tx hl, h n (by omega), pow8_succ]
    exact mod_mul_int v _ hv (Int.le_of_lt hp)
theorem low_getD (v : Int) (n k : Nat) (h : k < n) : (low v n).getD k 0 = v / 2 ^ (8 * k) % 256 := by simp [low, List.getD, h]
theorem getN_tx {l : List Int} (hl : Bytes l) (v : Int) (hv : 0 ≤ v) (a n : Nat) (ha : a + n ≤ l.length) (h2 : v < 2 ^ (8 * n)) (h : ∀ k, k < n → l.getD (a + k) 0 = v / 2 ^ (8 * k) % 256) : getN (strOfNums l) a n = v := by
  unfold getN
  rw [if_pos (by rw [strOfNums_size]; exact ha), num_tx hl v hv a n h, Int.emod_eq_of_lt hv h2]
theorem getD_left {a b : List Int} {j : Nat} (h : j < a.length) : (a ++ b).getD j 0 = a.getD j 0 := by simp [List.getD, List.getElem?_append_left h]
theorem getD_right {a b : List Int} {j : Nat} (h : a.length ≤ j) : (a ++ b).getD j 0 = b.getD (j - a.length) 0 := by simp [List.getD, List.getElem?_append_right h]
theorem getD_none {a : List Int} {j : Nat} (h : a.length ≤ j) : a.getD j 0 = 0 := by simp [List.getD, List.getElem?_eq_none h]
theorem zs_getD (n j : Nat) : (zs n).getD j 0 = 0 := zs_at n j
theorem padT_at (l : List Int) (h : l.length ≤ 224) (j : Nat) : (padT l).getD j 0 = l.getD j 0 := by
  unfold padT
  rw [splice_getD _ _ _ _ (by rw [zs_length]; omega), if_neg (by omega)]
  by_cases hj : j < l.length
  · rw [if_pos (by omega), Nat.sub_zero]
  · rw [if_neg (by omega), zs_getD, getD_none (by omega)]
/-- What stands at a place of a payload. -/
theorem payT_at (k no lsn : Int) (t : List Int) (h : t.length ≤ 209) (j : Nat) (hj : j < 3 ∨ 7 ≤ j) : (payT k no lsn t).getD j 0 = (headT k no lsn ++ t).getD j 0 := by
  have hl : (headT k no lsn ++ t).length ≤ 224 := by rw [List.length_append, headT_length]; omega
  unfold payT sealT
  rw [splice_getD _ _ _ _ (by rw [low_length, padT_length _ hl]; omega), low_length, padT_at _ hl]
  rcases hj with hj | hj
  · rw [if_pos hj]
  · rw [if_neg (by omega), if_neg (by omega)]
theorem head_kind (k no lsn : Int) (t : List Int) : (headT k no lsn ++ t).getD 0 0 = k % 256 := by
  rw [getD_left (by rw [headT_length]; omega)]
  unfold headT
  rw [getD_left (by simp [low_length]), getD_left (by simp [low_length]), getD_left (by simp [low_length]), low_getD _ _ _ (by decide)]
  simp
theorem head_no (k no lsn : Int) (t : List Int) (i : Nat) (hi : i < 2) : (headT k no lsn ++ t).getD (1 + i) 0 = no / 2 ^ (8 * i) % 256 := by
  rw [getD_left (by rw [headT_length]; omega)]
  unfold headT
  rw [getD_left (by simp [low_length]; omega), getD_left (by simp [low_length]; omega), getD_right (by simp [low_length]), low_length, low_getD _ _ _ (by omega)]
  rw [show 1 + i - 1 = i by omega]
theorem head_lsn (k no lsn : Int) (t : List Int) (i : Nat) (hi : i < 8) : (headT k no lsn ++ t).getD (7 + i) 0 = lsn / 2 ^ (8 * i) % 256 := by
  rw [getD_left (by rw [headT_length]; omega)]
  unfold headT
  have e : (low k 1 ++ low no 2 ++ low 0 4).length = 7 := by simp [low_length]
  rw [getD_right (by rw [e]; omega), e, low_getD _ _ _ (by omega)]
  rw [show 7 + i - 7 = i by omega]
theorem head_text (k no lsn : Int) (t : List Int) (i : Nat) : (headT k no lsn ++ t).getD (15 + i) 0 = t.getD i 0 := by
  rw [getD_right (by rw [headT_length]; omega), headT_length]
  rw [show 15 + i - 15 = i by omega]
/-- The LSN and the number of a payload. -/
theorem payT_lsn (k no lsn : Int) (t : List Int) (h : t.length ≤ 209) (hb : Bytes t) (hl : 0 ≤ lsn ∧ lsn ≤ 18446744073709551615) : getN (strOfNums (payT k no lsn t)) 7 8 = lsn := by
  refine getN_tx (payT_bytes k no lsn t hb) lsn hl.1 7 8 (by rw [payT_length _ _ _ _ h]; omega) (by omega) fun i hi => ?_
  rw [payT_at _ _ _ _ h _ (by omega), head_lsn _ _ _ _ _ hi]
theorem payT_no (k no lsn : Int) (t : List Int) (h : t.length ≤ 209) (hb : Bytes t) (hl : 0 ≤ no ∧ no ≤ 65535) : getN (strOfNums (payT k no lsn t)) 1 2 = no := by
  refine getN_tx (payT_bytes k no lsn t hb) no hl.1 1 2 (by rw [payT_length _ _ _ _ h]; omega) (by omega) fun i hi => ?_
  rw [payT_at _ _ _ _ h _ (by omega), head_no _ _ _ _ _ hi]
theorem data_ts (d : D) (i : Nat) (hi : i < 4) : (dataT d).getD i 0 = d.ts / 2 ^ (8 * i) % 256 := by
  unfold dataT
  rw [List.append_assoc, getD_left (by rw [low_length]; exact hi), low_getD _ _ _ hi]
theorem data_page (d : D) (i : Nat) (hi : i < 2) : (dataT d).getD (4 + i) 0 = d.page / 2 ^ (8 * i) % 256 := by
  unfold dataT
  rw [List.append_assoc, getD_right (by rw [low_length]; omega), low_length, show 4 + i - 4 = i by omega, getD_left (by rw [refT_length]; omega)]
  unfold refT
  rw [getD_left (by rw [low_length]; exact hi), low_getD _ _ _ hi]
theorem data_slot (d : D) : (dataT d).getD 6 0 = d.slot % 256 := by
  unfold dataT
  rw [List.append_assoc, getD_right (by rw [low_length]; omega), low_length, getD_left (by rw [refT_length]; omega)]
  unfold refT
  rw [getD_right (by rw [low_length]; omega), low_length, low_getD _ _ _ (by decide)]
  simp
theorem data_body (d : D) (i : Nat) : (dataT d).getD (7 + i) 0 = d.body.getD i 0 := by
  unfold dataT
  rw [getD_right (by simp [low_length, refT_length])]
  congr 1
  simp [low_length, refT_length]
theorem list_ext (a b : List Int) (n : Nat) (ha : a.length = n) (hb : b.length = n) (h : ∀ i, i < n → a.getD i 0 = b.getD i 0) : a = b := by
  apply List.ext_getElem (by omega)
  intro i h1 h2
  have := h i (by omega)
  simpa [List.getD, h1, h2] using this
/-- What was put is read again. -/
theorem dOf_putD (no : Int) (d : D) (hd : d.Ok) : dOf (putD no d) = d := by
  obtain ⟨hlsn, hts, hpg, hsl, hbl, hby⟩ := hd
  have hl := dataT_length d hbl
  have hb := dataT_bytes d hby
  have hpl := putD_length no d hbl
  have hpb := putD_bytes no d hby
  have at15 : ∀ i, (putD no d).getD (15 + i) 0 = (dataT d).getD i 0 := fun i => by
    unfold putD
    rw [payT_at _ _ _ _ (by omega) _ (by omega), head_text]
  have e1 : getN (strOfNums (putD no d)) 7 8 = d.lsn := payT_lsn _ _ _ _ (by omega) hb hlsn
  have e2 : getN (strOfNums (putD no d)) 15 4 = d.ts := getN_tx hpb _ hts.1 15 4 (by omega) (by omega) fun i hi => by rw [at15, data_ts _ _ hi]
  have e3 : getN (strOfNums (putD no d)) 19 2 = d.page := getN_tx hpb _ hpg.1 19 2 (by omega) (by omega) fun i hi => by
    have := at15 (4 + i)
    rw [show 15 + (4 + i) = 19 + i by omega] at this
    rw [this, data_page _ _ hi]
  have e4 : getN (strOfNums (putD no d)) 21 1 = d.slot := getN_tx hpb _ hsl.1 21 1 (by omega) (by omega) fun i hi => by
    have := at15 6
    obtain rfl : i = 0 := by omega
    rw [show 21 + 0 = 15 + 6 by omega, this, data_slot]
    simp
  have e5 : ((putD no d).drop 22).take 64 = d.body := by
    apply list_ext _ _ 64 (by simp; omega) hbl
    intro i hi
    have := at15 (7 + i)
    rw [data_body] at this
    rw [← this]
    simp only [List.getD]
    rw [List.getElem?_take, if_pos hi, List.getElem?_drop]
    congr 2
    omega
  unfold dOf
  rw [e1, e2, e3, e4, e5]
theorem isD_putD (no : Int) (d : D) (hd : d.Ok) : isD no (putD no d) = true := by
  unfold isD; rw [dOf_putD no d hd]; simp
theorem putD_no (no : Int) (d : D) (hd : d.Ok) (hno : 0 ≤ no ∧ no ≤ 65535) : getN (strOfNums (putD no d)) 1 2 = no :=
  payT_no _ _ _ _ (by rw [dataT_length d hd.len]; omega) (dataT_bytes d hd.bytes) hno
theorem putD_kind (no : Int) (d : D) (hd : d.Ok) : (putD no d).getD 0 0 = 1 := by
  unfold putD
  rw [payT_at _ _ _ _ (by rw [dataT_length d hd.len]; omega) _ (by omega), head_kind]
  rfl
theorem putD_inj (no on : Int) (a b : D) (ha : a.Ok) (hb : b.Ok) (h1 : 0 ≤ no ∧ no ≤ 65535) (h2 : 0 ≤ on ∧ on ≤ 65535) (h : putD no a = putD on b) : no = on ∧ a = b := by
  refine ⟨?_, ?_⟩
  · rw [← putD_no no a ha h1, h, putD_no on b hb h2]
  · rw [← dOf_putD no a ha, h, dOf_putD on b hb]
/-- A payload is a data page's of its own number alone. -/
theorem isD_other (no on : Int) (d : D) (hd : d.Ok) (h1 : 0 ≤ no ∧ no ≤ 65535) (h2 : 0 ≤ on ∧ on ≤ 65535) : isD on (putD no d) = decide (no = on) := by
  unfold isD
  rw [dOf_putD no d hd]
  apply decide_eq_decide.2
  constructor
  · intro h; exact ((putD_inj on no d d hd hd h2 h1 h).1).symm
  · intro h; rw [h]
end Go.Proofs.Ytihjapfgllokgab
