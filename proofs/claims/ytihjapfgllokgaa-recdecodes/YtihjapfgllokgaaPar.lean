/-
  Plain facts: what a reader takes is what was laid, and what was laid is taken.
-/
import Derived.Test.YtihjapfgllokgaaTak
namespace Go.Proofs.Ytihjapfgllokgaa
open Go.ChangeShapes Go.WideShapes Go.ChangeAt Go.RowKit
set_option linter.unusedVariables false
set_option linter.unusedSimpArgs false

/-- Bytes stand at a place of a text. -/
def St (s : ByteArray) (a : Nat) (L : List Int) : Prop := a + L.length ≤ s.size ∧ ((nums s).drop a).take L.length = L
theorem St_app {s : ByteArray} {a : Nat} {L M : List Int} : St s a (L ++ M) ↔ St s a L ∧ St s (a + L.length) M := by
  unfold St
  rw [List.length_append]
  constructor
  · rintro ⟨h1, h2⟩
    have e : ((nums s).drop a).take (L.length + M.length) = ((nums s).drop a).take L.length ++ (((nums s).drop a).drop L.length).take M.length := by rw [List.take_add]
    rw [e] at h2
    have hl : (((nums s).drop a).take L.length).length = L.length := by rw [List.length_take, List.length_drop, nums_length]; omega
    obtain ⟨q1, q2⟩ := List.append_inj h2 hl
    rw [List.drop_drop] at q2
    exact ⟨⟨by omega, q1⟩, by omega, q2⟩
  · rintro ⟨⟨h1, h2⟩, h3, h4⟩
    refine ⟨by omega, ?_⟩
    rw [List.take_add, h2, List.drop_drop, h4]
theorem low_add (v x : Int) (n : Nat) : low (v + x * 2 ^ (8 * n)) n = low v n := by
  unfold low
  apply List.map_congr_left
  intro i hi
  have hi' := List.mem_range.1 hi
  have e : (2 : Int) ^ (8 * n) = 2 ^ (8 * i) * (256 * 2 ^ (8 * (n - i - 1))) := by
    have h1 : 8 * n = 8 * i + (8 + 8 * (n - i - 1)) := by omega
    rw [h1, Int.pow_add, Int.pow_add]
    rfl
  have hp : (2 : Int) ^ (8 * i) ≠ 0 := by have := Int.pow_pos (n := 2) (m := 8 * i) (by decide); omega
  rw [e, show x * (2 ^ (8 * i) * (256 * 2 ^ (8 * (n - i - 1)))) = (x * (256 * 2 ^ (8 * (n - i - 1)))) * 2 ^ (8 * i) by ac_rfl, Int.add_mul_ediv_right _ _ hp]
  rw [show x * (256 * 2 ^ (8 * (n - i - 1))) = 256 * (x * 2 ^ (8 * (n - i - 1))) by ac_rfl, Int.add_mul_emod_self_left]
theorem low_num (s : ByteArray) (a : Nat) : ∀ n, a + n ≤ s.size → low (num s a n) n = ((nums s).drop a).take n
  | 0, _ => by simp [low]
  | k + 1, h => by
    have ih := low_num s a k (by omega)
    have hf := num_fits s a k
    have hb := byteAt_fits s (a + k)
    have hp : (0 : Int) < 2 ^ (8 * k) := Int.pow_pos (by decide)
    rw [low_succ]
    have e : num s a (k + 1) = num s a k + byteAt s (a + k) * 2 ^ (8 * k) := rfl
    rw [e, low_add, ih]
    have e2 : (num s a k + byteAt s (a + k) * 2 ^ (8 * k)) / 2 ^ (8 * k) = byteAt s (a + k) := by
      rw [Int.add_mul_ediv_right _ _ (by omega), Int.ediv_eq_zero_of_lt hf.1 hf.2]; omega
    rw [e2, show byteAt s (a + k) % 256 = byteAt s (a + k) by omega]
    have hl : (nums s).length = s.size := nums_length s
    have hk : k < ((nums s).drop a).length := by rw [List.length_drop]; omega
    rw [List.take_succ_eq_append_getElem hk]
    congr 1
    have e3 := byteAt_tx (nums_bytes s) (a + k)
    rw [tx_nums] at e3
    rw [e3]
    simp [List.getD, show a + k < (nums s).length by omega]
theorem pN_iff {s : ByteArray} {n a : Nat} {v : Int} {b : Nat} : pN s n a = some (v, b) ↔ (0 ≤ v ∧ v < 2 ^ (8 * n)) ∧ b = a + n ∧ St s a (low v n) := by
  constructor
  · intro h
    obtain ⟨h1, h2, h3⟩ := pN_some h
    refine ⟨pN_fits h, h2, ?_, ?_⟩
    · rw [low_length]; exact h3
    · rw [low_length, h1]
      unfold getN
      rw [if_pos h3, low_num s a n h3]
  · rintro ⟨h1, h2, h3, h4⟩
    rw [low_length] at h3 h4
    unfold pN
    rw [if_pos h3, h2]
    have e : getN s a n = v := by
      unfold getN
      rw [if_pos h3]
      have e1 := low_num s a n h3
      rw [h4] at e1
      exact low_inj e1 (num_fits s a n).1 h1.1 (num_fits s a n).2 h1.2
    rw [e]
theorem pFlag_iff {s : ByteArray} {a : Nat} {u : Bool} {b : Nat} : pFlag s a = some (u, b) ↔ b = a + 1 ∧ St s a (flagT u) := by
  have e256 : (2 : Int) ^ (8 * 1) = 256 := by decide
  have f1 : flagT true = low 1 1 := by decide
  have f0 : flagT false = low 0 1 := by decide
  unfold pFlag
  constructor
  · intro h
    cases h1 : pN s 1 a with
    | none => simp [h1] at h
    | some x =>
      obtain ⟨v, c⟩ := x
      simp only [h1] at h
      obtain ⟨q1, q2, q3⟩ := pN_iff.1 h1
      split at h
      · simp at h
        refine ⟨by omega, ?_⟩
        by_cases hv : v = 1
        · subst hv; simp at h; rw [h.1, f1]; exact q3
        · have h0 : v = 0 := by omega
          subst h0; simp at h; rw [h.1, f0]; exact q3
      · cases h
  · rintro ⟨h1, h2⟩
    cases u with
    | true =>
      rw [f1] at h2
      rw [pN_iff.2 ⟨⟨by decide, by decide⟩, h1, h2⟩]; rfl
    | false =>
      rw [f0] at h2
      rw [pN_iff.2 ⟨⟨by decide, by decide⟩, h1, h2⟩]; rfl
theorem pRef_iff {s : ByteArray} {a : Nat} {p q : Int} {b : Nat} : pRef s a = some ((p, q), b) ↔ (0 ≤ p ∧ p ≤ 65535) ∧ (0 ≤ q ∧ q ≤ 255) ∧ b = a + 3 ∧ St s a (refT p q) := by
  have e1 : (2 : Int) ^ (8 * 1) = 256 := by decide
  have e2 : (2 : Int) ^ (8 * 2) = 65536 := by decide
  unfold pRef refT
  rw [St_app, low_length]
  constructor
  · intro h
    cases h1 : pN s 2 a with
    | none => simp [h1] at h
    | some x =>
      obtain ⟨v, c⟩ := x
      simp only [h1] at h
      cases h2 : pN s 1 c with
      | none => simp [h2] at h
      | some y =>
        obtain ⟨u, d⟩ := y
        simp [h2] at h
        obtain ⟨q1, q2, q3⟩ := pN_iff.1 h1
        obtain ⟨q4, q5, q6⟩ := pN_iff.1 h2
        obtain ⟨⟨rfl, rfl⟩, rfl⟩ := h
        subst q2
        exact ⟨by omega, by omega, by omega, q3, q6⟩
  · rintro ⟨h1, h2, h3, h4, h5⟩
    rw [pN_iff.2 ⟨by omega, rfl, h4⟩]
    simp only
    rw [pN_iff.2 ⟨by omega, rfl, h5⟩, h3]
theorem extract_txt (l : List Int) (a b : Nat) : (strOfNums l).extract a b = strOfNums ((l.take b).drop a) := by
  have e : ((strOfNums l).extract a b).data.toList = (strOfNums ((l.take b).drop a)).data.toList := by
    rw [strOfNums_data]
    cases h : strOfNums l with | mk d =>
    rw [ByteArray.extract_mk]
    have hd : d.toList = l.map fun n => UInt8.ofNat n.toNat := by rw [← strOfNums_data, h]
    simp [hd, List.map_drop, List.map_take, List.extract_eq_take_drop, List.drop_take]
  cases h1 : (strOfNums l).extract a b with | mk x =>
  cases h2 : strOfNums ((l.take b).drop a) with | mk y =>
  rw [h1, h2] at e
  have : x = y := by rw [← Array.toArray_toList (xs := x), ← Array.toArray_toList (xs := y)]; exact congrArg _ e
  rw [this]
theorem nums_cut (s : ByteArray) (a n : Nat) : nums (s.extract a (a + n)) = ((nums s).drop a).take n := by
  conv => lhs; rw [← tx_nums s]
  rw [show (strOfNums (nums s)).extract a (a + n) = strOfNums (((nums s).take (a + n)).drop a) from extract_txt _ _ _]
  rw [nums_tx ((nums_bytes s).sub fun y hy => List.mem_of_mem_take (List.mem_of_mem_drop hy)), List.drop_take]
  congr 1; omega
theorem pSized_iff {s : ByteArray} {most a : Nat} {x : ByteArray} {b : Nat} (hm : most ≤ 255) : pSized s most a = some (x, b) ↔ x.size ≤ most ∧ b = a + (sizeT x).length ∧ St s a (sizeT x) := by
  have e1 : (2 : Int) ^ (8 * 1) = 256 := by decide
  unfold pSized sizeT
  rw [St_app, low_length, List.length_append, low_length, nums_length]
  constructor
  · intro h
    cases h1 : pN s 1 a with
    | none => simp [h1] at h
    | some y =>
      obtain ⟨n, c⟩ := y
      simp only [h1] at h
      obtain ⟨q1, q2, q3⟩ := pN_iff.1 h1
      split at h
      · rename_i q
        simp at h
        obtain ⟨N, hN⟩ : ∃ N : Nat, n = N := ⟨n.toNat, by omega⟩
        subst hN
        rw [Int.toNat_natCast] at h
        have hx : x.size = N := by rw [← h.1, ByteArray.size_extract]; omega
        refine ⟨by omega, by omega, by rw [hx]; exact q3, ?_⟩
        unfold St
        rw [nums_length, ← q2]
        refine ⟨by omega, ?_⟩
        rw [hx, ← h.1, nums_cut]
      · cases h
  · rintro ⟨h1, h2, h3, h4⟩
    rw [pN_iff.2 ⟨⟨by omega, by omega⟩, rfl, h3⟩]
    simp only
    unfold St at h4
    rw [nums_length] at h4
    rw [if_pos ⟨by omega, by omega⟩, Int.toNat_natCast]
    have e : s.extract (a + 1) (a + 1 + x.size) = x := by
      apply nums_inj
      rw [nums_cut, h4.2]
    rw [e, h2]
    congr 2; omega
theorem pOld_iff {s : ByteArray} {a : Nat} {o : O} {b : Nat} : pOld s a = some (o, b) ↔ o.live = true ∧ o.Fits ∧ o.delta.size ≤ 66 ∧ b = a + (oldT o).length ∧ St s a (oldT o) := by
  have e2 : (2 : Int) ^ (8 * 2) = 65536 := by decide
  have e4 : (2 : Int) ^ (8 * 4) = 4294967296 := by decide
  unfold pOld oldT
  rw [St_app, St_app, St_app]
  simp only [List.length_append, low_length, refT_length]
  constructor
  · intro h
    simp only [Option.bind_eq_some_iff] at h
    obtain ⟨⟨x1, x2⟩, h1, ⟨y1, y2⟩, h2, ⟨⟨z1, z3⟩, z2⟩, h3, ⟨u1, u2⟩, h4, h⟩ := h
    simp at h
    obtain ⟨rfl, rfl⟩ := h
    obtain ⟨q1, q2, q3⟩ := pN_iff.1 h1
    obtain ⟨q4, q5, q6⟩ := pN_iff.1 h2
    obtain ⟨q7, q8, q9, q10⟩ := pRef_iff.1 h3
    obtain ⟨q11, q12, q13⟩ := (pSized_iff (by decide)).1 h4
    simp only at q2 q3 q5 q6 q9 q10 q12 q13 h2 h3 h4
    subst q2
    subst q5
    subst q9
    refine ⟨rfl, ⟨by show 0 ≤ x1 ∧ x1 ≤ 65535; omega, by show 0 ≤ y1 ∧ y1 ≤ 4294967295; omega, q7, q8⟩, q11, by simp only; omega, ⟨⟨q3, q6⟩, ?_⟩, ?_⟩
    · rw [show a + (2 + 4) = a + 2 + 4 by omega]; exact q10
    · rw [show a + (2 + 4 + 3) = a + 2 + 4 + 3 by omega]; exact q13
  · rintro ⟨h1, h2, h3, h4, ⟨⟨h5, h6⟩, h7⟩, h8⟩
    have f1 := h2.page
    have f2 := h2.ts
    rw [pN_iff.2 ⟨by omega, rfl, h5⟩, Option.bind_some]
    simp only
    rw [pN_iff.2 ⟨by omega, rfl, h6⟩, Option.bind_some]
    simp only
    rw [pRef_iff.2 ⟨h2.np, h2.ns, rfl, by rw [show a + 2 + 4 = a + (2 + 4) by omega]; exact h7⟩, Option.bind_some]
    simp only
    rw [(pSized_iff (by decide)).2 ⟨h3, rfl, by rw [show a + 2 + 4 + 3 = a + (2 + 4 + 3) by omega]; exact h8⟩, Option.bind_some]
    simp only
    rw [h4, ← h1]
    congr 2; omega
theorem padI_at (x : ByteArray) (h : x.size ≤ 224) (i : Nat) : (padI x).getD i 0 = if i < x.size then byteAt x i else 0 := by
  unfold padI
  rw [splice_getD _ _ _ _ (by rw [zs_length, nums_length]; omega), nums_length, if_neg (by omega), zs_getD]
  by_cases q : i < x.size
  · rw [if_pos (by omega), if_pos q, Nat.sub_zero]
    have e3 := byteAt_tx (nums_bytes x) i
    rw [tx_nums] at e3
    exact e3.symm
  · rw [if_neg (by omega), if_neg q]
theorem imgN_pad (x : ByteArray) (h : x.size ≤ 224) (hk : okI x = true) : ∀ n, x.size ≤ n → n ≤ 224 → imgN (padI x) n = x.size
  | 0, h1, _ => by show 0 = _; omega
  | k + 1, h1, h2 => by
    show (if _ then _ else _) = _
    by_cases q : x.size ≤ k
    · rw [if_pos (by rw [padI_at x h, if_neg (by omega)])]
      exact imgN_pad x h hk k q (by omega)
    · have e : k = x.size - 1 := by omega
      rw [if_neg]
      · omega
      · rw [padI_at x h, if_pos (by omega)]
        unfold okI at hk
        rw [Bool.or_eq_true, decide_eq_true_eq, decide_eq_true_eq] at hk
        rw [e]
        rcases hk with hk | hk
        · omega
        · exact hk
theorem imgT_pad (x : ByteArray) (h : x.size ≤ 224) (hk : okI x = true) : strOfNums (imgT (padI x)) = x := by
  unfold imgT
  rw [imgN_pad x h hk 224 h (Nat.le_refl _)]
  have e : (padI x).take x.size = nums x := by
    unfold padI splice
    rw [List.take_zero, List.nil_append]
    rw [List.take_append_of_le_length (by rw [nums_length]; omega), ← nums_length x, List.take_length]
  rw [e, tx_nums]
theorem padI_bytes (x : ByteArray) : Bytes (padI x) := (zs_bytes _).splicing _ (nums_bytes _)
theorem imgN_last (l : List Int) : ∀ n, imgN l n = 0 ∨ l.getD (imgN l n - 1) 0 ≠ 0
  | 0 => Or.inl rfl
  | k + 1 => by
    unfold imgN
    split
    · exact imgN_last l k
    · right; rename_i q; exact q
theorem img_pad (l : List Int) (hl : l.length = 224) (hb : Bytes l) : okI (strOfNums (imgT l)) = true ∧ padI (strOfNums (imgT l)) = l ∧ (strOfNums (imgT l)).size ≤ 224 := by
  have hn := imgN_le l 224
  have hlen : (imgT l).length = imgN l 224 := by unfold imgT; rw [List.length_take]; omega
  have hsz : (strOfNums (imgT l)).size = imgN l 224 := by rw [strOfNums_size, hlen]
  refine ⟨?_, ?_, by omega⟩
  · unfold okI
    rw [hsz]
    rcases imgN_last l 224 with h | h
    · rw [decide_eq_true h]; rfl
    · by_cases h0 : imgN l 224 = 0
      · rw [decide_eq_true h0]; rfl
      · rw [byteAt_tx (imgT_bytes hb)]
        have e : (imgT l).getD (imgN l 224 - 1) 0 = l.getD (imgN l 224 - 1) 0 := by unfold imgT; simp only [List.getD]; rw [List.getElem?_take, if_pos (by omega)]
        rw [e, decide_eq_true h]; simp
  · unfold padI splice
    rw [nums_tx (imgT_bytes hb), List.take_zero, List.nil_append, Nat.zero_add, hlen]
    conv => rhs; rw [img_whole l hl]
    congr 1
    unfold zs
    rw [List.drop_replicate]
theorem pImg_iff {s : ByteArray} {a : Nat} {l : List Int} {b : Nat} : pImg s a = some (l, b) ↔ l.length = 224 ∧ Bytes l ∧ b = a + (sizeT (strOfNums (imgT l))).length ∧ St s a (sizeT (strOfNums (imgT l))) := by
  unfold pImg
  constructor
  · intro h
    simp only [Option.bind_eq_some_iff] at h
    obtain ⟨⟨x, c⟩, h1, h⟩ := h
    obtain ⟨q1, q2, q3⟩ := (pSized_iff (by decide)).1 h1
    simp only at h
    split at h
    · rename_i hk
      simp at h
      obtain ⟨rfl, rfl⟩ := h
      rw [imgT_pad x q1 hk]
      exact ⟨padI_length x q1, padI_bytes x, q2, q3⟩
    · cases h
  · rintro ⟨h1, h2, h3, h4⟩
    obtain ⟨q1, q2, q3⟩ := img_pad l h1 h2
    rw [(pSized_iff (by decide)).2 ⟨q3, h3, h4⟩, Option.bind_some]
    simp only
    rw [q1, q2]; rfl
end Go.Proofs.Ytihjapfgllokgaa
