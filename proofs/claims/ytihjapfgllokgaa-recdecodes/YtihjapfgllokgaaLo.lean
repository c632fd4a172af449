/-
  Plain facts: a record read loosely is the one that its bytes are, if they are any record's.
-/
import Derived.Test.YtihjapfgllokgaaPrc
namespace Go.Proofs.Ytihjapfgllokgaa
open Go.ChangeShapes Go.WideShapes Go.ChangeAt Go.RowKit
set_option linter.unusedVariables false
set_option linter.unusedSimpArgs false

/-- What stands behind a place. -/
def fromS (s : ByteArray) (i : Nat) : ByteArray := if s.size < i then { data := #[] } else s.extract i s.size
theorem fromS_size (s : ByteArray) (i : Nat) : (fromS s i).size ≤ s.size := by
  unfold fromS
  split
  · exact Nat.zero_le _
  · rw [ByteArray.size_extract]; omega
def loI (t : ByteArray) : List Int := fl 224 (fun j => byteAt t j)
/-- A record, read loosely. -/
def lo1 (s : ByteArray) : R := { R.zero with kind := 1, undo := decide (getN s 1 1 = 1), no := getN s 2 2, img := loI (fromS s 5) }
def lo2 (s : ByteArray) : R := { R.zero with kind := 2, no := getN s 1 2, ts := getN s 3 4, pp := getN s 7 2, ps := getN s 9 1, delta := fromS s 11 }
def lo3 (s : ByteArray) : R := { R.zero with kind := 3, undo := true, no := getN s 1 2, slot := getN s 3 1, old := ⟨true, getN s 4 2, getN s 6 4, getN s 10 2, getN s 12 1, fromS s 14⟩ }
def lo45 (k : Int) (s : ByteArray) : R := { R.zero with kind := k, undo := true, no := getN s 1 2, slot := getN s 3 1 }
def lo6 (s : ByteArray) : R := { R.zero with kind := 6, ts := getN s 1 4 }
def loR (s : ByteArray) : R :=
  if byteAt s 0 = 1 then lo1 s else if byteAt s 0 = 2 then lo2 s else if byteAt s 0 = 3 then lo3 s
  else if byteAt s 0 = 4 then lo45 4 s else if byteAt s 0 = 5 then lo45 5 s else if byteAt s 0 = 6 then lo6 s else { R.zero with kind := byteAt s 0 }
theorem getN_lt (s : ByteArray) (a n : Nat) : 0 ≤ getN s a n ∧ getN s a n < 2 ^ (8 * n) := by
  unfold getN
  split
  · exact num_fits s a n
  · exact ⟨Int.le_refl _, Int.pow_pos (by decide)⟩
theorem getN1 (s : ByteArray) (a : Nat) : 0 ≤ getN s a 1 ∧ getN s a 1 ≤ 255 := by have := getN_lt s a 1; rw [e256] at this; omega
theorem getN2 (s : ByteArray) (a : Nat) : 0 ≤ getN s a 2 ∧ getN s a 2 ≤ 65535 := by have := getN_lt s a 2; rw [e65536] at this; omega
theorem getN4 (s : ByteArray) (a : Nat) : 0 ≤ getN s a 4 ∧ getN s a 4 ≤ 4294967295 := by have := getN_lt s a 4; rw [e32] at this; omega
theorem loI_length (t : ByteArray) : (loI t).length = 224 := fl_length _ _
theorem loI_bytes (t : ByteArray) : Bytes (loI t) := by
  intro y hy
  obtain ⟨j, _, rfl⟩ := List.mem_map.1 hy
  exact byteAt_fits t j
theorem lo1_fits (s : ByteArray) : (lo1 s).Fits := ⟨by show (0 : Int) ≤ 1 ∧ (1 : Int) ≤ 255; decide, getN2 s 2, loI_length _, loI_bytes _, R.zero_fits.ts, R.zero_fits.pp, R.zero_fits.ps, R.zero_fits.slot, R.zero_fits.delta, R.zero_fits.old, R.zero_fits.odelta⟩
theorem lo2_fits (s : ByteArray) (hs : s.size ≤ maxLen) : (lo2 s).Fits := ⟨by show (0 : Int) ≤ 2 ∧ (2 : Int) ≤ 255; decide, getN2 s 1, R.zero_fits.len, R.zero_fits.img, getN4 s 3, getN2 s 7, getN1 s 9, R.zero_fits.slot, Nat.le_trans (fromS_size s 11) hs, R.zero_fits.old, R.zero_fits.odelta⟩
theorem lo3_fits (s : ByteArray) (hs : s.size ≤ maxLen) : (lo3 s).Fits := ⟨by show (0 : Int) ≤ 3 ∧ (3 : Int) ≤ 255; decide, getN2 s 1, R.zero_fits.len, R.zero_fits.img, R.zero_fits.ts, R.zero_fits.pp, R.zero_fits.ps, getN1 s 3, R.zero_fits.delta, ⟨getN2 s 4, getN4 s 6, getN2 s 10, getN1 s 12⟩, Nat.le_trans (fromS_size s 14) hs⟩
theorem lo45_fits (k : Int) (s : ByteArray) (hk : 0 ≤ k ∧ k ≤ 255) : (lo45 k s).Fits := ⟨hk, getN2 s 1, R.zero_fits.len, R.zero_fits.img, R.zero_fits.ts, R.zero_fits.pp, R.zero_fits.ps, getN1 s 3, R.zero_fits.delta, R.zero_fits.old, R.zero_fits.odelta⟩
theorem lo6_fits (s : ByteArray) : (lo6 s).Fits := ⟨by show (0 : Int) ≤ 6 ∧ (6 : Int) ≤ 255; decide, R.zero_fits.no, R.zero_fits.len, R.zero_fits.img, getN4 s 1, R.zero_fits.pp, R.zero_fits.ps, R.zero_fits.slot, R.zero_fits.delta, R.zero_fits.old, R.zero_fits.odelta⟩
theorem loK_fits (k : Int) (hk : 0 ≤ k ∧ k ≤ 255) : ({ R.zero with kind := k } : R).Fits := ⟨hk, R.zero_fits.no, R.zero_fits.len, R.zero_fits.img, R.zero_fits.ts, R.zero_fits.pp, R.zero_fits.ps, R.zero_fits.slot, R.zero_fits.delta, R.zero_fits.old, R.zero_fits.odelta⟩
theorem pFlag_val {s : ByteArray} {a : Nat} {u : Bool} {b : Nat} (h : pFlag s a = some (u, b)) : u = decide (getN s a 1 = 1) ∧ b = a + 1 := by
  unfold pFlag at h
  cases h1 : pN s 1 a with
  | none => simp [h1] at h
  | some x =>
    obtain ⟨v, c⟩ := x
    simp only [h1] at h
    obtain ⟨q1, q2, q3⟩ := pN_some h1
    split at h
    · have e := Prod.mk.inj (Option.some.inj h)
      exact ⟨by rw [← e.1, q1], by omega⟩
    · cases h
theorem pRef_val {s : ByteArray} {a : Nat} {p q : Int} {b : Nat} (h : pRef s a = some ((p, q), b)) : p = getN s a 2 ∧ q = getN s (a + 2) 1 ∧ b = a + 3 := by
  unfold pRef at h
  cases h1 : pN s 2 a with
  | none => simp [h1] at h
  | some x =>
    obtain ⟨v, c⟩ := x
    simp only [h1] at h
    cases h2 : pN s 1 c with
    | none => simp [h2] at h
    | some y =>
      obtain ⟨u, d⟩ := y
      simp [h2] at h
      obtain ⟨q1, q2, q3⟩ := pN_some h1
      obtain ⟨q4, q5, q6⟩ := pN_some h2
      obtain ⟨⟨rfl, rfl⟩, rfl⟩ := h
      subst q2
      exact ⟨q1, q4, by omega⟩
theorem pSized_val {s : ByteArray} {m a : Nat} {x : ByteArray} {b : Nat} (h : pSized s m a = some (x, b)) (hb : b = s.size) : x = fromS s (a + 1) ∧ x.size ≤ m := by
  unfold pSized at h
  cases h1 : pN s 1 a with
  | none => simp [h1] at h
  | some y =>
    obtain ⟨n, c⟩ := y
    simp only [h1] at h
    obtain ⟨q1, q2, q3⟩ := pN_some h1
    have qf := pN_fits h1
    split at h
    · rename_i q
      have e := Prod.mk.inj (Option.some.inj h)
      have e2 : c + n.toNat = s.size := by rw [← hb]; exact e.2
      unfold fromS
      rw [if_neg (by omega)]
      refine ⟨?_, ?_⟩
      · rw [← e.1, e2, q2]
      · rw [← e.1, ByteArray.size_extract]; omega
    · cases h
theorem pImg_val {s : ByteArray} {a : Nat} {l : List Int} {b : Nat} (h : pImg s a = some (l, b)) (hb : b = s.size) : l = loI (fromS s (a + 1)) := by
  unfold pImg at h
  rw [Option.bind_eq_some_iff] at h
  obtain ⟨⟨x, c⟩, h1, h⟩ := h
  simp only at h
  split at h
  · have e := Prod.mk.inj (Option.some.inj h)
    obtain ⟨e1, e2⟩ := pSized_val h1 (by rw [← hb]; exact e.2)
    rw [← e.1, ← e1]
    unfold loI
    apply eq_fl _ _ _ (padI_length x e2)
    intro j hj
    rw [padI_at x e2]
    by_cases q : j < x.size
    · rw [if_pos q]
    · rw [if_neg q]; unfold byteAt; rw [dif_neg q]
  · cases h
theorem pOld_val {s : ByteArray} {a : Nat} {o : O} {b : Nat} (h : pOld s a = some (o, b)) (hb : b = s.size) : o = ⟨true, getN s a 2, getN s (a + 2) 4, getN s (a + 6) 2, getN s (a + 8) 1, fromS s (a + 10)⟩ := by
  unfold pOld at h
  simp only [Option.bind_eq_some_iff] at h
  obtain ⟨⟨x1, x2⟩, h1, ⟨y1, y2⟩, h2, ⟨⟨z1, z3⟩, z2⟩, h3, ⟨u1, u2⟩, h4, h⟩ := h
  simp only at h1 h2 h3 h4 h
  have e := Prod.mk.inj (Option.some.inj h)
  obtain ⟨q1, q2, q3⟩ := pN_some h1
  obtain ⟨q4, q5, q6⟩ := pN_some h2
  obtain ⟨q7, q8, q9⟩ := pRef_val h3
  obtain ⟨q10, _⟩ := pSized_val h4 (by rw [← hb]; exact e.2)
  subst q2 q5 q9
  rw [← e.1, q1, q4, q7, q8, q10]
theorem lo_is {s : ByteArray} {x : R} (h : decR s = some x) : loR s = x := by
  unfold decR at h
  rw [Option.bind_eq_some_iff] at h
  obtain ⟨⟨x', b⟩, h1, h⟩ := h
  simp only at h
  by_cases hb : b = s.size
  rotate_left
  · rw [if_neg hb] at h; cases h
  rw [if_pos hb] at h
  have hx := Option.some.inj h
  subst hx
  clear h
  unfold pRec at h1
  rw [Option.bind_eq_some_iff] at h1
  obtain ⟨⟨k, c⟩, hk, h⟩ := h1
  obtain ⟨q1, q2, q3⟩ := pN_some hk
  simp only at h
  have hk0 : byteAt s 0 = k := by
    rw [q1]; unfold getN; rw [if_pos q3]; simp [num]
  unfold loR
  rw [hk0]
  by_cases k1 : k = 1
  · subst k1
    rw [if_pos rfl] at h ⊢
    simp only [Option.bind_eq_some_iff] at h
    obtain ⟨⟨u, c2⟩, h2, ⟨n, c3⟩, h3, ⟨i, c4⟩, h4, h⟩ := h
    simp only at h2 h3 h4 h
    have e := Prod.mk.inj (Option.some.inj h)
    obtain ⟨p1, p2⟩ := pFlag_val h2
    obtain ⟨p3, p4, _⟩ := pN_some h3
    have p5 := pImg_val h4 (by rw [← hb]; exact e.2)
    subst q2 p2 p4
    rw [← e.1, p1, p3, p5]; rfl
  rw [if_neg k1] at h ⊢
  by_cases k2 : k = 2
  · subst k2
    rw [if_pos rfl] at h ⊢
    simp only [Option.bind_eq_some_iff] at h
    obtain ⟨⟨n, c2⟩, h2, ⟨t, c3⟩, h3, ⟨⟨f, g⟩, c4⟩, h4, ⟨d, c5⟩, h5, h⟩ := h
    simp only at h2 h3 h4 h5 h
    have e := Prod.mk.inj (Option.some.inj h)
    obtain ⟨p1, p2, _⟩ := pN_some h2
    obtain ⟨p3, p4, _⟩ := pN_some h3
    obtain ⟨p5, p6, p7⟩ := pRef_val h4
    obtain ⟨p8, _⟩ := pSized_val h5 (by rw [← hb]; exact e.2)
    subst q2 p2 p4 p7
    rw [← e.1, p1, p3, p5, p6, p8]; rfl
  rw [if_neg k2] at h ⊢
  by_cases k3 : k = 3
  · subst k3
    rw [if_pos rfl] at h ⊢
    simp only [Option.bind_eq_some_iff] at h
    obtain ⟨⟨n, c2⟩, h2, ⟨l, c3⟩, h3, ⟨o, c4⟩, h4, h⟩ := h
    simp only at h2 h3 h4 h
    have e := Prod.mk.inj (Option.some.inj h)
    obtain ⟨p1, p2, _⟩ := pN_some h2
    obtain ⟨p3, p4, _⟩ := pN_some h3
    have p5 := pOld_val h4 (by rw [← hb]; exact e.2)
    subst q2 p2 p4
    rw [← e.1, p1, p3, p5]; rfl
  rw [if_neg k3] at h ⊢
  by_cases k4 : k = 4
  · subst k4
    rw [if_pos rfl] at h ⊢
    simp only [Option.bind_eq_some_iff] at h
    obtain ⟨⟨n, c2⟩, h2, ⟨l, c3⟩, h3, h⟩ := h
    simp only at h2 h3 h
    have e := Prod.mk.inj (Option.some.inj h)
    obtain ⟨p1, p2, _⟩ := pN_some h2
    obtain ⟨p3, p4, _⟩ := pN_some h3
    subst q2 p2
    rw [← e.1, p1, p3]; rfl
  rw [if_neg k4] at h ⊢
  by_cases k5 : k = 5
  · subst k5
    rw [if_pos rfl] at h ⊢
    simp only [Option.bind_eq_some_iff] at h
    obtain ⟨⟨n, c2⟩, h2, ⟨l, c3⟩, h3, h⟩ := h
    simp only at h2 h3 h
    have e := Prod.mk.inj (Option.some.inj h)
    obtain ⟨p1, p2, _⟩ := pN_some h2
    obtain ⟨p3, p4, _⟩ := pN_some h3
    subst q2 p2
    rw [← e.1, p1, p3]; rfl
  rw [if_neg k5] at h ⊢
  by_cases k6 : k = 6
  · subst k6
    rw [if_pos rfl] at h ⊢
    simp only [Option.bind_eq_some_iff] at h
    obtain ⟨⟨t, c2⟩, h2, h⟩ := h
    simp only at h2 h
    have e := Prod.mk.inj (Option.some.inj h)
    obtain ⟨p1, p2, _⟩ := pN_some h2
    subst q2
    rw [← e.1, p1]; rfl
  rw [if_neg k6] at h
  cases h
theorem lo_dec (s : ByteArray) (hf : (loR s).Fits) : decR s = if mayR (loR s) = true ∧ encS (loR s) = s then some (loR s) else none := by
  cases hq : decR s with
  | none =>
    rw [if_neg]
    rintro ⟨h1, h2⟩
    have e := decR_enc hf h1
    unfold encS at h2
    rw [h1, if_pos rfl] at h2
    rw [h2, hq] at e
    cases e
  | some x =>
    have e := lo_is hq
    obtain ⟨p1, p2, p3⟩ := decR_some hq
    rw [e, if_pos]
    refine ⟨p2, ?_⟩
    unfold encS
    rw [p2, if_pos rfl, p3]
theorem dec_empty : decR { data := #[] } = none := by
  cases hq : decR { data := #[] } with
  | none => rfl
  | some x =>
    obtain ⟨p1, p2, p3⟩ := decR_some hq
    have := congrArg ByteArray.size p3
    rw [strOfNums_size] at this
    unfold encT at this
    rw [List.length_append, low_length] at this
    have h0 : ({ data := #[] } : ByteArray).size = 0 := rfl
    omega
end Go.Proofs.Ytihjapfgllokgaa
