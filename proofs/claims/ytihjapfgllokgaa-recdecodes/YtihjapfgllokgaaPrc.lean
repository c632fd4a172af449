/-
  Plain facts: what a record's bytes are taken for, and which bytes are a record's.
-/
import Derived.Test.YtihjapfgllokgaaPar
namespace Go.Proofs.Ytihjapfgllokgaa
open Go.ChangeShapes Go.WideShapes Go.ChangeAt Go.RowKit
set_option linter.unusedVariables false
set_option linter.unusedSimpArgs false

theorem St_at {s : ByteArray} {a a' : Nat} {L : List Int} (h : St s a L) (e : a = a') : St s a' L := e ▸ h
theorem len66 {x : ByteArray} (h : x.size ≤ 66) : x.size ≤ maxLen := by unfold maxLen; omega
theorem may_of {r : R} (h1 : 1 ≤ r.kind ∧ r.kind ≤ 6) (h2 : r = ownR r) (h3 : r.delta.size ≤ 66) (h4 : r.old.delta.size ≤ 66) : mayR r = true := by
  unfold mayR okK
  rw [decide_eq_true h1, decide_eq_true h2, decide_eq_true h3, decide_eq_true h4]; rfl
theorem own_old {o : O} (h : o.live = true) : { o with live := true } = o := by cases o; simp_all
theorem fits_zero : O.zero.Fits := R.zero_fits.old
theorem zero_delta : R.zero.delta.size ≤ 66 := Nat.zero_le _
theorem zero_odelta : R.zero.old.delta.size ≤ 66 := Nat.zero_le _
theorem e256 : (2 : Int) ^ (8 * 1) = 256 := by decide
theorem e65536 : (2 : Int) ^ (8 * 2) = 65536 := by decide
theorem e32 : (2 : Int) ^ (8 * 4) = 4294967296 := by decide
theorem pRec_some {s : ByteArray} {a : Nat} {r : R} {b : Nat} (h : pRec s a = some (r, b)) : r.Fits ∧ mayR r = true ∧ b = a + (encT r).length ∧ St s a (encT r) := by
  unfold pRec at h
  rw [Option.bind_eq_some_iff] at h
  obtain ⟨⟨k, c⟩, h1, h⟩ := h
  obtain ⟨q1, q2, q3⟩ := pN_iff.1 h1
  clear h1
  simp only at h
  by_cases k1 : k = 1
  · subst k1
    rw [if_pos rfl] at h
    simp only [Option.bind_eq_some_iff] at h
    obtain ⟨⟨u, c2⟩, h2, ⟨n, c3⟩, h3, ⟨i, c4⟩, h4, h⟩ := h
    simp only at h2 h3 h4 h
    have hb := (Prod.mk.inj (Option.some.inj h)).2
    have hr := (Prod.mk.inj (Option.some.inj h)).1
    clear h
    subst hr hb
    obtain ⟨p1, p2⟩ := pFlag_iff.1 h2
    obtain ⟨p3, p4, p5⟩ := pN_iff.1 h3
    obtain ⟨p6, p7, p8, p9⟩ := pImg_iff.1 h4
    rw [e65536] at p3
    refine ⟨⟨by show (0 : Int) ≤ 1 ∧ (1 : Int) ≤ 255; decide, by show 0 ≤ n ∧ n ≤ 65535; omega, p6, p7, R.zero_fits.ts, R.zero_fits.pp, R.zero_fits.ps, R.zero_fits.slot, R.zero_fits.delta, R.zero_fits.old, R.zero_fits.odelta⟩, may_of ⟨by show (1 : Int) ≤ 1; decide, by show (1 : Int) ≤ 6; decide⟩ rfl zero_delta zero_odelta, ?_⟩
    rw [show encT { R.zero with kind := 1, undo := u, no := n, img := i } = low 1 1 ++ (flagT u ++ low n 2 ++ sizeT (strOfNums (imgT i))) from rfl]
    simp only [St_app, List.length_append, low_length, flagT_length]
    exact ⟨by omega, q3, ⟨St_at p2 (by omega), St_at p5 (by omega)⟩, St_at p9 (by omega)⟩
  rw [if_neg k1] at h
  by_cases k2 : k = 2
  · subst k2
    rw [if_pos rfl] at h
    simp only [Option.bind_eq_some_iff] at h
    obtain ⟨⟨n, c2⟩, h2, ⟨t, c3⟩, h3, ⟨⟨f, g⟩, c4⟩, h4, ⟨d, c5⟩, h5, h⟩ := h
    simp only at h2 h3 h4 h5 h
    have hb := (Prod.mk.inj (Option.some.inj h)).2
    have hr := (Prod.mk.inj (Option.some.inj h)).1
    clear h
    subst hr hb
    obtain ⟨p1, p2, p3⟩ := pN_iff.1 h2
    obtain ⟨p4, p5, p6⟩ := pN_iff.1 h3
    obtain ⟨p7, p8, p9, p10⟩ := pRef_iff.1 h4
    obtain ⟨p11, p12, p13⟩ := (pSized_iff (by decide)).1 h5
    rw [e65536] at p1
    rw [e32] at p4
    refine ⟨⟨by show (0 : Int) ≤ 2 ∧ (2 : Int) ≤ 255; decide, by show 0 ≤ n ∧ n ≤ 65535; omega, R.zero_fits.len, R.zero_fits.img, by show 0 ≤ t ∧ t ≤ 4294967295; omega, p7, p8, R.zero_fits.slot, len66 p11, R.zero_fits.old, R.zero_fits.odelta⟩, may_of ⟨by show (1 : Int) ≤ 2; decide, by show (2 : Int) ≤ 6; decide⟩ rfl p11 zero_odelta, ?_⟩
    rw [show encT { R.zero with kind := 2, no := n, ts := t, pp := f, ps := g, delta := d } = low 2 1 ++ (low n 2 ++ low t 4 ++ refT f g ++ sizeT d) from rfl]
    simp only [St_app, List.length_append, low_length, refT_length]
    exact ⟨by omega, q3, ⟨⟨St_at p3 (by omega), St_at p6 (by omega)⟩, St_at p10 (by omega)⟩, St_at p13 (by omega)⟩
  rw [if_neg k2] at h
  by_cases k3 : k = 3
  · subst k3
    rw [if_pos rfl] at h
    simp only [Option.bind_eq_some_iff] at h
    obtain ⟨⟨n, c2⟩, h2, ⟨l, c3⟩, h3, ⟨o, c4⟩, h4, h⟩ := h
    simp only at h2 h3 h4 h
    have hb := (Prod.mk.inj (Option.some.inj h)).2
    have hr := (Prod.mk.inj (Option.some.inj h)).1
    clear h
    subst hr hb
    obtain ⟨p1, p2, p3⟩ := pN_iff.1 h2
    obtain ⟨p4, p5, p6⟩ := pN_iff.1 h3
    obtain ⟨p7, p8, p9, p10, p11⟩ := pOld_iff.1 h4
    rw [e65536] at p1
    rw [e256] at p4
    refine ⟨⟨by show (0 : Int) ≤ 3 ∧ (3 : Int) ≤ 255; decide, by show 0 ≤ n ∧ n ≤ 65535; omega, R.zero_fits.len, R.zero_fits.img, R.zero_fits.ts, R.zero_fits.pp, R.zero_fits.ps, by show 0 ≤ l ∧ l ≤ 255; omega, R.zero_fits.delta, p8, len66 p9⟩, may_of ⟨by show (1 : Int) ≤ 3; decide, by show (3 : Int) ≤ 6; decide⟩ ?_ zero_delta p9, ?_⟩
    · show _ = { R.zero with kind := 3, undo := true, no := n, slot := l, old := { o with live := true } }
      rw [own_old p7]
    rw [show encT { R.zero with kind := 3, undo := true, no := n, slot := l, old := o } = low 3 1 ++ (low n 2 ++ low l 1 ++ oldT o) from rfl]
    simp only [St_app, List.length_append, low_length]
    exact ⟨by omega, q3, ⟨St_at p3 (by omega), St_at p6 (by omega)⟩, St_at p11 (by omega)⟩
  rw [if_neg k3] at h
  by_cases k4 : k = 4
  · subst k4
    rw [if_pos rfl] at h
    simp only [Option.bind_eq_some_iff] at h
    obtain ⟨⟨n, c2⟩, h2, ⟨l, c3⟩, h3, h⟩ := h
    simp only at h2 h3 h
    have hb := (Prod.mk.inj (Option.some.inj h)).2
    have hr := (Prod.mk.inj (Option.some.inj h)).1
    clear h
    subst hr hb
    obtain ⟨p1, p2, p3⟩ := pN_iff.1 h2
    obtain ⟨p4, p5, p6⟩ := pN_iff.1 h3
    rw [e65536] at p1
    rw [e256] at p4
    refine ⟨⟨by show (0 : Int) ≤ 4 ∧ (4 : Int) ≤ 255; decide, by show 0 ≤ n ∧ n ≤ 65535; omega, R.zero_fits.len, R.zero_fits.img, R.zero_fits.ts, R.zero_fits.pp, R.zero_fits.ps, by show 0 ≤ l ∧ l ≤ 255; omega, R.zero_fits.delta, R.zero_fits.old, R.zero_fits.odelta⟩, may_of ⟨by show (1 : Int) ≤ 4; decide, by show (4 : Int) ≤ 6; decide⟩ rfl zero_delta zero_odelta, ?_⟩
    rw [show encT { R.zero with kind := 4, undo := true, no := n, slot := l } = low 4 1 ++ (low n 2 ++ low l 1) from rfl]
    simp only [St_app, List.length_append, low_length]
    exact ⟨by omega, q3, St_at p3 (by omega), St_at p6 (by omega)⟩
  rw [if_neg k4] at h
  by_cases k5 : k = 5
  · subst k5
    rw [if_pos rfl] at h
    simp only [Option.bind_eq_some_iff] at h
    obtain ⟨⟨n, c2⟩, h2, ⟨l, c3⟩, h3, h⟩ := h
    simp only at h2 h3 h
    have hb := (Prod.mk.inj (Option.some.inj h)).2
    have hr := (Prod.mk.inj (Option.some.inj h)).1
    clear h
    subst hr hb
    obtain ⟨p1, p2, p3⟩ := pN_iff.1 h2
    obtain ⟨p4, p5, p6⟩ := pN_iff.1 h3
    rw [e65536] at p1
    rw [e256] at p4
    refine ⟨⟨by show (0 : Int) ≤ 5 ∧ (5 : Int) ≤ 255; decide, by show 0 ≤ n ∧ n ≤ 65535; omega, R.zero_fits.len, R.zero_fits.img, R.zero_fits.ts, R.zero_fits.pp, R.zero_fits.ps, by show 0 ≤ l ∧ l ≤ 255; omega, R.zero_fits.delta, R.zero_fits.old, R.zero_fits.odelta⟩, may_of ⟨by show (1 : Int) ≤ 5; decide, by show (5 : Int) ≤ 6; decide⟩ rfl zero_delta zero_odelta, ?_⟩
    rw [show encT { R.zero with kind := 5, undo := true, no := n, slot := l } = low 5 1 ++ (low n 2 ++ low l 1) from rfl]
    simp only [St_app, List.length_append, low_length]
    exact ⟨by omega, q3, St_at p3 (by omega), St_at p6 (by omega)⟩
  rw [if_neg k5] at h
  by_cases k6 : k = 6
  · subst k6
    rw [if_pos rfl] at h
    simp only [Option.bind_eq_some_iff] at h
    obtain ⟨⟨t, c2⟩, h2, h⟩ := h
    simp only at h2 h
    have hb := (Prod.mk.inj (Option.some.inj h)).2
    have hr := (Prod.mk.inj (Option.some.inj h)).1
    clear h
    subst hr hb
    obtain ⟨p1, p2, p3⟩ := pN_iff.1 h2
    rw [e32] at p1
    refine ⟨⟨by show (0 : Int) ≤ 6 ∧ (6 : Int) ≤ 255; decide, R.zero_fits.no, R.zero_fits.len, R.zero_fits.img, by show 0 ≤ t ∧ t ≤ 4294967295; omega, R.zero_fits.pp, R.zero_fits.ps, R.zero_fits.slot, R.zero_fits.delta, R.zero_fits.old, R.zero_fits.odelta⟩, may_of ⟨by show (1 : Int) ≤ 6; decide, by show (6 : Int) ≤ 6; decide⟩ rfl zero_delta zero_odelta, ?_⟩
    rw [show encT { R.zero with kind := 6, ts := t } = low 6 1 ++ low t 4 from rfl]
    simp only [St_app, List.length_append, low_length]
    exact ⟨by omega, q3, St_at p3 (by omega)⟩
  rw [if_neg k6] at h
  cases h
theorem St_low1 {s : ByteArray} {a : Nat} {v k : Int} {L : List Int} (hv : v = k) (h : St s a (low v 1 ++ L)) : St s a (low k 1) ∧ St s (a + 1) L := by
  subst hv
  have := St_app.1 h
  rw [low_length] at this
  exact this
theorem pRec_of {s : ByteArray} {a : Nat} {r : R} (hf : r.Fits) (hm : mayR r = true) (h : St s a (encT r)) : pRec s a = some (r, a + (encT r).length) := by
  have hm' := hm
  unfold mayR at hm'
  simp at hm'
  obtain ⟨hk, ho, hd, hod⟩ := hm'
  unfold okK at hk
  simp at hk
  have f1 := hf.no
  have f2 := hf.ts
  have f3 := hf.slot
  have he : encT r = low r.kind 1 ++ fldT r := rfl
  rw [he] at h ⊢
  unfold pRec
  by_cases k1 : r.kind = 1
  · have hr : r = { R.zero with kind := 1, undo := r.undo, no := r.no, img := r.img } := by
      refine ho.trans ?_; unfold ownR; rw [if_pos k1, k1]
    obtain ⟨h0, h⟩ := St_low1 k1 h
    have hfl : fldT r = flagT r.undo ++ low r.no 2 ++ sizeT (strOfNums (imgT r.img)) := by unfold fldT; rw [if_pos k1]
    rw [hfl] at h ⊢
    simp only [St_app, List.length_append, low_length, flagT_length] at h ⊢
    obtain ⟨⟨h1, h2⟩, h3⟩ := h
    rw [pN_iff.2 ⟨⟨by decide, by decide⟩, rfl, h0⟩, Option.bind_some, if_pos rfl]
    simp only
    rw [pFlag_iff.2 ⟨rfl, h1⟩, Option.bind_some]
    simp only
    rw [pN_iff.2 ⟨by rw [e65536]; omega, rfl, h2⟩, Option.bind_some]
    simp only
    rw [pImg_iff.2 ⟨hf.len, hf.img, rfl, St_at h3 (by omega)⟩, Option.bind_some]
    refine Eq.trans ?_ (congrArg (fun x => some (x, _)) hr.symm)
    congr 2 <;> (try simp only) <;> omega
  rw [show ∀ f : Int × Nat → Option (R × Nat), ((pN s 1 a).bind f) = f (r.kind, a + 1) from fun f => by
    rw [pN_iff.2 ⟨by rw [e256]; have := hf.kind; omega, rfl, (St_low1 rfl h).1⟩, Option.bind_some]]
  obtain ⟨h0, h⟩ := St_low1 rfl h
  simp only
  rw [if_neg k1]
  by_cases k2 : r.kind = 2
  · have hr : r = { R.zero with kind := 2, no := r.no, ts := r.ts, pp := r.pp, ps := r.ps, delta := r.delta } := by
      refine ho.trans ?_; unfold ownR; rw [if_neg k1, if_pos k2, k2]
    have hfl : fldT r = low r.no 2 ++ low r.ts 4 ++ refT r.pp r.ps ++ sizeT r.delta := by unfold fldT; rw [if_neg k1, if_pos k2]
    rw [hfl] at h ⊢
    simp only [St_app, List.length_append, low_length, refT_length] at h ⊢
    obtain ⟨⟨⟨h1, h2⟩, h3⟩, h4⟩ := h
    rw [if_pos k2, pN_iff.2 ⟨by rw [e65536]; omega, rfl, h1⟩, Option.bind_some]
    simp only
    rw [pN_iff.2 ⟨by rw [e32]; omega, rfl, h2⟩, Option.bind_some]
    simp only
    rw [pRef_iff.2 ⟨hf.pp, hf.ps, rfl, St_at h3 (by omega)⟩, Option.bind_some]
    simp only
    rw [(pSized_iff (by decide)).2 ⟨hd, rfl, St_at h4 (by omega)⟩, Option.bind_some]
    refine Eq.trans ?_ (congrArg (fun x => some (x, _)) hr.symm)
    congr 2 <;> (try simp only) <;> omega
  rw [if_neg k2]
  by_cases k3 : r.kind = 3
  · have hr : r = { R.zero with kind := 3, undo := true, no := r.no, slot := r.slot, old := { r.old with live := true } } := by
      refine ho.trans ?_; unfold ownR; rw [if_neg k1, if_neg k2, if_pos k3, k3]
    have hl : r.old.live = true := by rw [hr]
    rw [own_old hl] at hr
    have hfl : fldT r = low r.no 2 ++ low r.slot 1 ++ oldT r.old := by unfold fldT; rw [if_neg k1, if_neg k2, if_pos k3]
    rw [hfl] at h ⊢
    rw [St_app, St_app] at h
    rw [List.length_append, List.length_append, List.length_append]
    simp only [List.length_append, low_length] at h ⊢
    obtain ⟨⟨h1, h2⟩, h3⟩ := h
    rw [if_pos k3, pN_iff.2 ⟨by rw [e65536]; omega, rfl, h1⟩, Option.bind_some]
    simp only
    rw [pN_iff.2 ⟨by rw [e256]; omega, rfl, h2⟩, Option.bind_some]
    simp only
    rw [pOld_iff.2 ⟨hl, hf.old, hod, rfl, St_at h3 (by omega)⟩, Option.bind_some]
    refine Eq.trans ?_ (congrArg (fun x => some (x, _)) hr.symm)
    congr 2 <;> (try simp only) <;> omega
  rw [if_neg k3]
  by_cases k45 : r.kind = 4 ∨ r.kind = 5
  · have hfl : fldT r = low r.no 2 ++ low r.slot 1 := by unfold fldT; rw [if_neg k1, if_neg k2, if_neg k3, if_pos k45]
    rw [hfl] at h ⊢
    simp only [St_app, List.length_append, low_length] at h ⊢
    obtain ⟨h1, h2⟩ := h
    rw [pN_iff.2 ⟨by rw [e65536]; omega, rfl, h1⟩, Option.bind_some, Option.bind_some]
    simp only
    rw [pN_iff.2 ⟨by rw [e256]; omega, rfl, h2⟩, Option.bind_some, Option.bind_some]
    rcases k45 with k | k
    · have hr : r = { R.zero with kind := 4, undo := true, no := r.no, slot := r.slot } := by
        refine ho.trans ?_; unfold ownR; rw [if_neg k1, if_neg k2, if_neg k3, if_pos k, k]
      rw [if_pos k]
      refine Eq.trans ?_ (congrArg (fun x => some (x, _)) hr.symm)
      congr 2 <;> (try simp only) <;> omega
    · have hr : r = { R.zero with kind := 5, undo := true, no := r.no, slot := r.slot } := by
        refine ho.trans ?_; unfold ownR; rw [if_neg k1, if_neg k2, if_neg k3, if_neg (by omega), if_pos k, k]
      rw [if_neg (by omega), if_pos k]
      refine Eq.trans ?_ (congrArg (fun x => some (x, _)) hr.symm)
      congr 2 <;> (try simp only) <;> omega
  have k6 : r.kind = 6 := by omega
  have hr : r = { R.zero with kind := 6, ts := r.ts } := by
    refine ho.trans ?_; unfold ownR; rw [if_neg k1, if_neg k2, if_neg k3, if_neg (by omega), if_neg (by omega), if_pos k6, k6]
  have hfl : fldT r = low r.ts 4 := by unfold fldT; rw [if_neg k1, if_neg k2, if_neg k3, if_neg k45]
  rw [hfl] at h ⊢
  simp only [List.length_append, low_length] at h ⊢
  rw [if_neg (by omega), if_neg (by omega), if_pos k6, pN_iff.2 ⟨by rw [e32]; omega, rfl, h⟩, Option.bind_some]
  refine Eq.trans ?_ (congrArg (fun x => some (x, _)) hr.symm)
  congr 2 <;> (try simp only) <;> omega
/-- Which bytes a record has. -/
theorem dec_enc {r : R} (hf : r.Fits) (hm : mayR r = true) (more : ByteArray) : pRec (strOfNums (encT r) ++ more) 0 = some (r, (encT r).length) := by
  have e := pRec_of (s := strOfNums (encT r) ++ more) (a := 0) hf hm ?_
  · rw [e, Nat.zero_add]
  · have en : nums (strOfNums (encT r) ++ more) = encT r ++ nums more := by
      conv => lhs; rw [← tx_nums more, ← strOfNums_append]
      exact nums_tx ((encT_bytes r hf).append (nums_bytes _))
    refine ⟨?_, ?_⟩
    · rw [ByteArray.size_append, strOfNums_size]; omega
    · rw [en, List.drop_zero, List.take_left]
theorem decR_some {s : ByteArray} {r : R} (h : decR s = some r) : r.Fits ∧ mayR r = true ∧ strOfNums (encT r) = s := by
  unfold decR at h
  rw [Option.bind_eq_some_iff] at h
  obtain ⟨⟨x, b⟩, h1, h⟩ := h
  simp only at h
  by_cases q : b = s.size
  · rw [if_pos q] at h
    have hx := Option.some.inj h
    subst hx
    obtain ⟨p1, p2, p3, p4, p5⟩ := pRec_some h1
    refine ⟨p1, p2, ?_⟩
    have hl : (encT x).length = (nums s).length := by rw [nums_length]; omega
    rw [List.drop_zero, hl, List.take_length] at p5
    rw [← p5, tx_nums]
  · rw [if_neg q] at h; cases h
theorem decR_enc {r : R} (hf : r.Fits) (hm : mayR r = true) : decR (strOfNums (encT r)) = some r := by
  have e := dec_enc hf hm ByteArray.empty
  rw [ByteArray.append_empty] at e
  unfold decR
  rw [e, Option.bind_some]
  simp only
  rw [if_pos (by rw [strOfNums_size])]
theorem decR_more {r : R} (hf : r.Fits) (hm : mayR r = true) (more : ByteArray) (hn : more.size ≠ 0) : decR (strOfNums (encT r) ++ more) = none := by
  unfold decR
  rw [dec_enc hf hm more, Option.bind_some]
  simp only
  rw [if_neg (by rw [ByteArray.size_append, strOfNums_size]; omega)]
theorem decR_cut {r : R} (hf : r.Fits) (hm : mayR r = true) (n : Nat) (hn : n < (encT r).length) : decR ((strOfNums (encT r)).extract 0 n) = none := by
  cases hq : decR ((strOfNums (encT r)).extract 0 n) with
  | none => rfl
  | some x =>
    obtain ⟨p1, p2, p3⟩ := decR_some hq
    have hx : (encT x).length = n := by
      have := congrArg ByteArray.size p3
      rw [strOfNums_size, ByteArray.size_extract, strOfNums_size] at this
      omega
    have e1 := congrArg nums p3
    rw [nums_tx (encT_bytes x p1)] at e1
    have e2 := nums_cut (strOfNums (encT r)) 0 n
    rw [Nat.zero_add] at e2
    rw [e2] at e1
    have a1 := pRec_of (s := strOfNums (encT r)) (a := 0) p1 p2 ⟨by rw [strOfNums_size]; omega, by rw [hx]; exact e1.symm⟩
    have a2 := dec_enc hf hm ByteArray.empty
    rw [ByteArray.append_empty, a1] at a2
    have := (Prod.mk.inj (Option.some.inj a2)).2
    omega
end Go.Proofs.Ytihjapfgllokgaa
