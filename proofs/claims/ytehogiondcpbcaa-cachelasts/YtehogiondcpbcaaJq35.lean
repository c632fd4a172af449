/-
  Plain facts: what a cache, its log and its disk keep, whatever of the disk's operations fail. Plain facts: the laws' caches, behind each of the statements' calls. The laws' caches in memory, call by call. Tables of payloads.
-/
import Derived.Test.YtehogiondcpbcaaJq33
import Derived.Test.YtehogiondcpbcaaJq34
import Derived.Test.YtehogiondcpbcaaJq31
namespace Go.Proofs.Ytehogiondcpbcaa
open Go.ChangeShapes Go.WideShapes Go.ChangeAt Go.RowKit
set_option linter.unusedVariables false
set_option linter.unusedSimpArgs false
set_option maxRecDepth 20000
def Pg (u : Bool) (k : Int) : Prop := 0 ≤ k ∧ if u = true then k < 5 else k < 4
theorem Pg.in_ {u : Bool} {k : Int} (h : Pg u k) : 2 ≤ placeC 4 u k ∧ placeC 4 u k ≤ 10 := by
  obtain ⟨h1, h2⟩ := h
  unfold placeC
  cases u
  · simp at h2 ⊢; omega
  · simp at h2 ⊢; omega
theorem Pg.at_ {b : Int} (h : 2 ≤ b ∧ b ≤ 10) : ∃ u k, Pg u k ∧ placeC 4 u k = b := by
  by_cases q : b ≤ 5
  · exact ⟨false, b - 2, ⟨by omega, by simp; omega⟩, by unfold placeC; simp; omega⟩
  · exact ⟨true, b - 6, ⟨by omega, by simp; omega⟩, by unfold placeC; simp; omega⟩
theorem Pg.inj {u u2 : Bool} {k k2 : Int} (h : Pg u k) (h2 : Pg u2 k2) (e : placeC 4 u k = placeC 4 u2 k2) : u = u2 ∧ k = k2 := by
  obtain ⟨a1, a2⟩ := h
  obtain ⟨b1, b2⟩ := h2
  unfold placeC at e
  cases u <;> cases u2 <;> simp at a2 b2 e ⊢ <;> omega
theorem Pg.lim {u : Bool} {k : Int} (h : Pg u k) : 0 ≤ k ∧ k ≤ 65535 := by
  obtain ⟨a1, a2⟩ := h
  cases u <;> simp at a2 <;> omega
theorem lsnP_blank (u : Bool) (k : Int) : lsnP (blankP u k) = 0 := by
  cases u with
  | false =>
    have h := dOf_putD k D.zero D.zero_ok
    have h2 : (dOf (putD k D.zero)).lsn = 0 := by rw [h]; rfl
    exact h2
  | true =>
    have h : lsnOf (putU k 0 []) = 0 := by
      rw [putU_may k 0 [] may_nil]
      exact lsnOf_put k 0 [] may_nil (by omega)
    exact h
theorem lsnP_fill (u : Bool) (k b lsn : Int) (hb : 0 ≤ b ∧ b ≤ 255) (hl : 0 ≤ lsn ∧ lsn ≤ 18446744073709551615) : lsnP (fillP u k b lsn) = lsn := by
  cases u with
  | false =>
    have h := dOf_putD k ⟨lsn, b, 0, 0, zs 64⟩ ⟨hl, (by show 0 ≤ b ∧ b ≤ 4294967295; omega), (by show (0 : Int) ≤ 0 ∧ (0 : Int) ≤ 65535; omega), (by show (0 : Int) ≤ 0 ∧ (0 : Int) ≤ 255; omega), zs_length _, zs_bytes _⟩
    have h2 : (dOf (putD k ⟨lsn, b, 0, 0, zs 64⟩)).lsn = lsn := by rw [h]
    exact h2
  | true =>
    have hm : may [fO b] = true := rfl
    have h : lsnOf (putU k lsn [fO b]) = lsn := by
      rw [putU_may k lsn _ hm]
      exact lsnOf_put k lsn _ hm hl
    exact h
theorem read_fz {d : Dsk} {n : Nat} {k : Int} (h : Fz d n k) (b : Int) (hb : 0 ≤ b ∧ b < n) : Fz (read d b).2.2 n (k + 1) ∧ ((read d b).2.1 = 0 → (read d b).1 = d.seen b) := by
  obtain ⟨E, hE⟩ := count_fz h
  have ha : ask d b = (E, d.tick (d.ops + 1)) := by
    unfold ask
    rw [if_neg (by rw [h.on]; simp), if_pos (by rw [h.size]; exact hb)]; exact hE
  unfold read
  rw [ha]
  by_cases h0 : E = 0
  · rw [if_pos h0]; exact ⟨h.tick, fun _ => rfl⟩
  · rw [if_neg h0]; exact ⟨h.tick, fun q => absurd q h0⟩
structure St (s : Cs) (l : Lg) (d : Dsk) (k : Nat) (last : Bool → Int → List Int) : Prop where
  pi : PI l k
  at_ : l.at_ = 12
  size : l.size = 48
  dl : 1 ≤ l.dur ∧ l.dur ≤ l.fin
  fz : Fz d 60 (2000 * k)
  pages : s.pages = 4
  undo : s.undo = 5
  fr : ∀ f ∈ s.fs, isP f.un f.no f.p = true ∧ lsnP f.p < l.fin ∧ f.p = last f.un f.no
  blk : ∀ u j, Pg u j → wholeB (d.seen (placeC 4 u j)) = true ∧ lsnP (Sl.payN (d.seen (placeC 4 u j)) 4) < l.dur
  rest : ∀ u j, Pg u j → (∀ f ∈ s.fs, f.un = u → f.no = j → f.dirty = false) → (openF u j (d.seen (placeC 4 u j))).p = last u j ∧ d.sure.block (placeC 4 u j) = d.seen (placeC 4 u j)
theorem okR12 : okR 12 48 (60 : Nat) = true := by decide
theorem St.keep {s s' : Cs} {l l' : Lg} {d d' : Dsk} {k : Nat} {last : Bool → Int → List Int} (h : St s l d k last) {k' : Nat} (h1 : s'.pages = s.pages) (h2 : s'.undo = s.undo) (h3 : s'.fs = s.fs) (p : PI l' k') (h4 : l'.at_ = l.at_) (h5 : l'.size = l.size) (h6 : l.dur ≤ l'.dur ∧ l'.dur ≤ l'.fin) (h7 : l.fin ≤ l'.fin) (h8 : Fz d' 60 (2000 * k')) (h9 : ∀ b, 2 ≤ b ∧ b ≤ 10 → Keep d d' b) : St s' l' d' k' last := by
  refine ⟨p, h4.trans h.at_, h5.trans h.size, ⟨by have := h.dl; omega, h6.2⟩, h8, h1.trans h.pages, h2.trans h.undo, fun f hf => ?_, fun u j hp => ?_, fun u j hp hq => ?_⟩
  · rw [h3] at hf
    obtain ⟨q1, q2, q3⟩ := h.fr f hf
    exact ⟨q1, by omega, q3⟩
  · obtain ⟨q1, q2⟩ := h.blk u j hp
    rw [(h9 _ hp.in_).1]
    exact ⟨q1, by omega⟩
  · rw [h3] at hq
    obtain ⟨q1, q2⟩ := h.rest u j hp hq
    have hk := h9 _ hp.in_
    rw [hk.1]
    refine ⟨q1, ?_⟩
    rcases hk.2 with q | q
    · exact q.trans q2
    · exact q
theorem St.same {s s' : Cs} {l : Lg} {d : Dsk} {k : Nat} {last : Bool → Int → List Int} (h : St s l d k last) (h1 : s'.pages = s.pages) (h2 : s'.undo = s.undo) (h3 : s'.fs = s.fs) : St s' l d k last :=
  h.keep h1 h2 h3 h.pi rfl rfl ⟨by omega, h.dl.2⟩ (by omega) h.fz (fun b _ => Keep.refl d b)
theorem St.mono {s : Cs} {l : Lg} {d : Dsk} {k k' : Nat} {last : Bool → Int → List Int} (h : St s l d k last) (hk : k ≤ k') : St s l d k' last :=
  h.keep rfl rfl rfl (h.pi.mono hk) rfl rfl ⟨by omega, h.dl.2⟩ (by omega) (h.fz.mono (by omega)) (fun b _ => Keep.refl d b)
theorem St.page {s : Cs} {l : Lg} {d : Dsk} {k : Nat} {last : Bool → Int → List Int} (h : St s l d k last) (ok : s.Ok) {f : Fm} (hf : f ∈ s.fs) : Pg f.un f.no := by
  have h1 := ok.page f hf
  rw [h.pages, h.undo] at h1
  exact ⟨(wfu (ok.fs f hf).no).1, h1⟩
structure WbF (s : Cs) (l : Lg) (d : Dsk) (f : Fm) (k : Nat) (E : Int) (l' : Lg) (d' : Dsk) : Prop where
  pi : PI l' (k + 1)
  at_ : l'.at_ = l.at_
  size : l'.size = l.size
  fin : l'.fin = l.fin
  dur : l.dur ≤ l'.dur ∧ l'.dur ≤ l'.fin
  fz : Fz d' 60 (2000 * k + 1002)
  keep : ∀ b, 2 ≤ b ∧ b ≤ 10 → b ≠ placeC 4 f.un f.no → Keep d d' b
  own : Keep d d' (placeC 4 f.un f.no) ∨ (d'.seen (placeC 4 f.un f.no) = Sl.sealN (lsnP f.p) f.p 4 ∧ lsnP f.p < l'.dur)
  done : E = 0 → d'.seen (placeC 4 f.un f.no) = Sl.sealN (lsnP f.p) f.p 4 ∧ lsnP f.p < l'.dur ∧ d'.pend = []
theorem flushIf_told {l : Lg} {d : Dsk} {k : Nat} {x : Int} (hk : k ≤ 1000) (pi : PI l k) (ha : l.at_ = 12) (hz : l.size = 48) (dl : l.dur ≤ l.fin) (fz : Fz d 60 (2000 * k)) (hx : x < l.fin) :
    PI (flushIf l d x).2.1 (k + 1) ∧ (flushIf l d x).2.1.at_ = l.at_ ∧ (flushIf l d x).2.1.size = l.size ∧ (flushIf l d x).2.1.fin = l.fin ∧ (l.dur ≤ (flushIf l d x).2.1.dur ∧ (flushIf l d x).2.1.dur ≤ l.fin) ∧ Fz (flushIf l d x).2.2 60 (2000 * k + 1000) ∧ (∀ b, 2 ≤ b ∧ b ≤ 10 → Keep d (flushIf l d x).2.2 b) ∧ ((flushIf l d x).1 = 0 → x < (flushIf l d x).2.1.dur) := by
  unfold flushIf
  by_cases h : l.dur ≤ x
  · rw [if_pos h]
    have hin : ∀ y, 0 ≤ placeV l.at_ l.size y ∧ placeV l.at_ l.size y < (60 : Nat) := fun y => by rw [ha, hz]; exact place_in 12 48 60 y okR12
    obtain ⟨t1, t2, t3, t4, t5, t6⟩ := flush_told pi fz hin
    refine ⟨pi.flush hk d, t2, t3, t4, ?_, t1, fun b hb => ?_, fun q => by rw [t5 q]; exact hx⟩
    · by_cases h0 : (flushR l d).1 = 0
      · rw [t5 h0]; omega
      · rw [t6 h0]; omega
    · refine flush_keep l d b fun y e => ?_
      obtain ⟨k1, k2, _⟩ := closed_at l
      rw [k1, k2, ha, hz] at e
      unfold placeV at e
      have := Int.emod_nonneg y (show (48 : Int) ≠ 0 by omega)
      omega
  · rw [if_neg h]
    exact ⟨pi.mono (by omega), rfl, rfl, rfl, ⟨Int.le_refl _, dl⟩, fz.mono (by omega), fun b _ => Keep.refl d b, fun _ => by show x < l.dur; omega⟩
theorem wb_told {s : Cs} {l : Lg} {d : Dsk} {k : Nat} {f : Fm} (hk : k ≤ 1000) (hs : s.pages = 4) (hp : Pg f.un f.no) (pi : PI l k) (ha : l.at_ = 12) (hz : l.size = 48) (dl : l.dur ≤ l.fin) (fz : Fz d 60 (2000 * k)) (hx : lsnP f.p < l.fin) : WbF s l d f k (wbR s l d f).1 (wbR s l d f).2.1 (wbR s l d f).2.2 := by
  obtain ⟨a1, a2, a3, a4, a5, a6, a7, a8⟩ := flushIf_told hk pi ha hz dl fz hx
  have hpl : placeC s.pages f.un f.no = placeC 4 f.un f.no := by rw [hs]; rfl
  have hin := hp.in_
  unfold wbR
  generalize flushIf l d (lsnP f.p) = a at a1 a2 a3 a4 a5 a6 a7 a8 ⊢
  simp only
  by_cases h0 : a.1 = 0
  · rw [if_neg (by rw [h0]; simp)]
    obtain ⟨E, d1, e1, f1, g1, g2⟩ := writ_fz a6 (placeC 4 f.un f.no) ⟨by omega, by omega⟩ (Sl.sealN (lsnP f.p) f.p 4)
    have hw : wrD s f a.2.2 = (E, d1) := by unfold wrD; rw [hpl]; exact e1
    have hkw : ∀ b, 2 ≤ b ∧ b ≤ 10 → b ≠ placeC 4 f.un f.no → Keep d d1 b := fun b hb hn => by
      have := writ_keep a.2.2 (placeC 4 f.un f.no) b (Sl.sealN (lsnP f.p) f.p 4) hn
      rw [e1] at this
      exact (a7 b hb).trans this
    rw [hw]
    by_cases h1 : E = 0
    · rw [if_neg (by show ¬ E ≠ 0; rw [h1]; simp)]
      obtain ⟨E2, d2, e2, f2, g3, g4⟩ := sync_fz f1
      have hks : ∀ b, Keep d1 d2 b := fun b => by have := sync_keep d1 b; rw [e2] at this; exact this
      have hse : d2.seen (placeC 4 f.un f.no) = Sl.sealN (lsnP f.p) f.p 4 := by
        rw [g3, g1 h1]; exact wrote_seen _ _ _ (Sl.sealN_length _ _ 4 (by omega))
      rw [e2]
      exact ⟨a1, a2, a3, a4, ⟨a5.1, by rw [a4]; exact a5.2⟩, f2.mono (by omega), fun b hb hn => (hkw b hb hn).trans (hks b), Or.inr ⟨hse, a8 h0⟩, fun q => ⟨hse, a8 h0, g4 q⟩⟩
    · rw [if_pos (by exact h1)]
      refine ⟨a1, a2, a3, a4, ⟨a5.1, by rw [a4]; exact a5.2⟩, f1.mono (by omega), hkw, Or.inl ?_, fun q => absurd q h1⟩
      have hkt : Keep a.2.2 d1 (placeC 4 f.un f.no) := by
        rw [g2 h1]; exact Keep.same rfl rfl _
      exact (a7 _ hin).trans hkt
  · rw [if_pos h0]
    exact ⟨a1, a2, a3, a4, ⟨a5.1, by rw [a4]; exact a5.2⟩, a6.mono (by omega), fun b hb _ => a7 b hb, Or.inl (a7 _ hin), fun q => absurd q h0⟩
theorem whole_seal (v : Int) (p : List Int) (hv : 0 ≤ v ∧ v ≤ 18446744073709551615) : wholeB (Sl.sealN v p 4) = true := by
  unfold wholeB
  apply decide_eq_true
  rw [Sl.stamp_sealed v p hv.1 hv.2 0 (by omega), Sl.stamp_sealed v p hv.1 hv.2 1 (by omega), Sl.stamp_sealed v p hv.1 hv.2 2 (by omega), Sl.stamp_sealed v p hv.1 hv.2 3 (by omega)]
  exact ⟨rfl, rfl, rfl⟩
theorem open_seal {u : Bool} {j : Int} {p : List Int} (hp : p.length = 224) (hi : isP u j p = true) : (openF u j (Sl.sealN (lsnP p) p 4)).p = p := by
  unfold openF
  rw [whole_seal _ _ (lsnP_in p), Sl.pay_sealed _ _ hp, hi, if_pos ⟨rfl, rfl⟩]
theorem St.wb {s : Cs} {l : Lg} {d : Dsk} {k : Nat} {last : Bool → Int → List Int} (h : St s l d k last) (ok : s.Ok) (hk : k ≤ 1000) {i : Nat} {f : Fm} (hf : s.fs[i]? = some f) (hd : f.dirty = true) :
    ((wbR s l d f).1 = 0 → St (cleanF s i f) (wbR s l d f).2.1 (wbR s l d f).2.2 (k + 1) last) ∧ ((wbR s l d f).1 ≠ 0 → St s (wbR s l d f).2.1 (wbR s l d f).2.2 (k + 1) last) ∧ Fz (wbR s l d f).2.2 60 (2000 * k + 1002) := by
  have hm : f ∈ s.fs := List.mem_of_getElem? hf
  obtain ⟨q1, q2, q3⟩ := h.fr f hm
  have hpg := h.page ok hm
  have hl := (ok.fs f hm).len
  have w := wb_told (s := s) hk h.pages hpg h.pi h.at_ h.size h.dl.2 h.fz q2
  generalize wbR s l d f = r at w ⊢
  have hblk : ∀ u j, Pg u j → wholeB (r.2.2.seen (placeC 4 u j)) = true ∧ lsnP (Sl.payN (r.2.2.seen (placeC 4 u j)) 4) < r.2.1.dur := fun u j hp => by
    obtain ⟨b1, b2⟩ := h.blk u j hp
    have hd := w.dur
    by_cases e : placeC 4 u j = placeC 4 f.un f.no
    · rw [e] at b1 b2 ⊢
      rcases w.own with o | ⟨o1, o2⟩
      · rw [o.1]; exact ⟨b1, by omega⟩
      · rw [o1, whole_seal _ _ (lsnP_in f.p), Sl.pay_sealed _ _ hl]; exact ⟨rfl, o2⟩
    · rw [(w.keep _ hp.in_ e).1]; exact ⟨b1, by omega⟩
  have hkeep : ∀ u j, Pg u j → placeC 4 u j ≠ placeC 4 f.un f.no → (openF u j (d.seen (placeC 4 u j))).p = last u j ∧ d.sure.block (placeC 4 u j) = d.seen (placeC 4 u j) → (openF u j (r.2.2.seen (placeC 4 u j))).p = last u j ∧ r.2.2.sure.block (placeC 4 u j) = r.2.2.seen (placeC 4 u j) := fun u j hp hn ho => by
    have hk := w.keep _ hp.in_ hn
    rw [hk.1]
    refine ⟨ho.1, ?_⟩
    rcases hk.2 with q | q
    · exact q.trans ho.2
    · exact q
  have hdl : 1 ≤ r.2.1.dur ∧ r.2.1.dur ≤ r.2.1.fin := ⟨by have := h.dl; have := w.dur; omega, w.dur.2⟩
  refine ⟨fun h0 => ?_, fun h0 => ?_, w.fz⟩
  · obtain ⟨d1, d2, d3⟩ := w.done h0
    refine ⟨w.pi, w.at_.trans h.at_, w.size.trans h.size, hdl, w.fz.mono (by omega), h.pages, h.undo, fun g hg => ?_, hblk, fun u j hp hq => ?_⟩
    · rcases List.mem_or_eq_of_mem_set hg with y | y
      · rw [w.fin]; exact h.fr g y
      · rw [y, w.fin]; exact ⟨q1, q2, q3⟩
    · by_cases e : placeC 4 u j = placeC 4 f.un f.no
      · obtain ⟨rfl, rfl⟩ := hp.inj hpg e
        rw [d1, ← seen_none _ d3, d1]
        exact ⟨(open_seal hl q1).trans q3, rfl⟩
      · refine hkeep u j hp e (h.rest u j hp fun g hg e1 e2 => hq g ?_ e1 e2)
        obtain ⟨n, hn, hne⟩ := List.mem_iff_getElem.1 hg
        have hni : n ≠ i := fun z => by
          subst z
          have : s.fs[n]? = some g := by rw [← hne]; exact List.getElem?_eq_getElem hn
          rw [hf] at this
          cases this
          exact e (by rw [e1, e2])
        refine List.mem_of_getElem? (i := n) ?_
        show (s.fs.set i _)[n]? = some g
        rw [List.getElem?_set_ne (Ne.symm hni), ← hne]; exact List.getElem?_eq_getElem hn
  · refine ⟨w.pi, w.at_.trans h.at_, w.size.trans h.size, hdl, w.fz.mono (by omega), h.pages, h.undo, fun g hg => by rw [w.fin]; exact h.fr g hg, hblk, fun u j hp hq => ?_⟩
    by_cases e : placeC 4 u j = placeC 4 f.un f.no
    · obtain ⟨rfl, rfl⟩ := hp.inj hpg e
      have := hq f hm rfl rfl
      rw [hd] at this; cases this
    · exact hkeep u j hp e (h.rest u j hp hq)
theorem St.vac {s : Cs} {l : Lg} {d : Dsk} {k : Nat} {last : Bool → Int → List Int} (h : St s l d k last) (ok : s.Ok) (hk : k ≤ 1000) {i : Nat} {E : Int} {s1 : Cs} {l1 : Lg} {d1 : Dsk} (v : Vac s l d i E s1 l1 d1) :
    St s1 l1 d1 (k + 1) last ∧ Fz d1 60 (2000 * k + 1002) ∧ (E = 0 → ∀ f, s1.fs[i]? = some f → f.dirty = false) := by
  rcases v with ⟨h1, rfl, rfl, rfl, rfl, rfl⟩ | ⟨h1, b, v, ck', h', h2, h3, ⟨rfl, rfl, rfl, rfl, rfl, rfl⟩ | ⟨rfl, rfl, f, hf, ⟨h6, rfl, rfl, rfl, rfl⟩ | ⟨h6, rfl, rfl, rfl, rfl⟩⟩⟩
  · exact ⟨h.mono (by omega), h.fz.mono (by omega), fun _ f hf => by rw [List.getElem?_eq_none (by omega)] at hf; cases hf⟩
  · exact ⟨(h.same (s' := { s with ck := ck', hand := h' }) rfl rfl rfl).mono (by omega), h.fz.mono (by omega), fun q => by cases q⟩
  · exact ⟨(h.same (s' := { s with ck := ck', hand := h' }) rfl rfl rfl).mono (by omega), h.fz.mono (by omega), fun _ g hg => by
      have : s.fs[i]? = some g := hg
      rw [hf] at this; cases this; exact h6⟩
  · obtain ⟨w1, w2, w3⟩ := h.wb ok hk hf h6
    refine ⟨?_, w3, fun q g hg => ?_⟩
    · by_cases q : (wbR s l d f).1 = 0
      · rw [if_pos q]; exact (w1 q).same rfl rfl rfl
      · rw [if_neg q]; exact (w2 q).same rfl rfl rfl
    · rw [if_pos q] at hg
      have : (s.fs.set i { f with dirty := false })[i]? = some g := hg
      rw [List.getElem?_set_self (List.getElem?_eq_some_iff.1 hf).1] at this
      cases this; rfl
theorem St.load {s : Cs} {l : Lg} {d : Dsk} {k : Nat} {last : Bool → Int → List Int} (h : St s l d k last) (ok : s.Ok) (hk : k ≤ 1000) {u : Bool} {j : Int} (hp : Pg u j) (hn : posF s.fs u j = none) {i : Nat} {E : Int} {s' : Cs} {l' : Lg} {d' : Dsk} (v : Loads s l d u j i E s' l' d') :
    St s' l' d' (k + 1) last ∧ (E = 0 → ∃ f, s'.fs[i]? = some f ∧ f.p = last u j) := by
  obtain ⟨i1, E1, s1, d1, hv, hr⟩ := v
  obtain ⟨v1, v2, v3⟩ := h.vac ok hk hv
  have vf := hv.f ok
  have hpl : placeC s.pages u j = placeC 4 u j := by rw [h.pages]; rfl
  have hin := hp.in_
  obtain ⟨r1, r2⟩ := read_fz v2 (placeC 4 u j) ⟨by omega, by omega⟩
  have hke : ∀ b, Keep d1 (read d1 (placeC 4 u j)).2.2 b := fun b => read_keep d1 _ b
  rw [hpl] at hr
  have hst : St s1 l' (read d1 (placeC 4 u j)).2.2 (k + 1) last := v1.keep rfl rfl rfl v1.pi rfl rfl ⟨by omega, v1.dl.2⟩ (by omega) (r1.mono (by omega)) (fun b _ => hke b)
  rcases hr with ⟨h1, _, rfl, rfl, rfl⟩ | ⟨_, h1, _, rfl, rfl, rfl⟩ | ⟨rfl, h1, rfl, rfl, rfl, rfl⟩
  · exact ⟨v1, fun q => absurd q h1⟩
  · exact ⟨hst, fun q => absurd q h1⟩
  · have hb : (read d1 (placeC 4 u j)).1 = d1.seen (placeC 4 u j) := r2 h1
    rw [hb]
    have hno : ∀ f ∈ s1.fs, ¬ (f.un = u ∧ f.no = j) := fun f hf => posF_none (by rw [vf.pos]; exact hn) hf
    have hvac : ∀ f ∈ s1.fs, f.un = u → f.no = j → f.dirty = false := fun f hf e1 e2 => absurd ⟨e1, e2⟩ (hno f hf)
    have hop := v1.rest u j hp hvac
    have hkb := v1.blk u j hp
    have hfo : (openF u j (d1.seen (placeC 4 u j))).un = u ∧ (openF u j (d1.seen (placeC 4 u j))).no = j ∧ isP u j (openF u j (d1.seen (placeC 4 u j))).p = true ∧ lsnP (openF u j (d1.seen (placeC 4 u j))).p < l'.fin ∧ (openF u j (d1.seen (placeC 4 u j))).dirty = false := by
      have hdl := v1.dl
      unfold openF
      split
      · rename_i q; exact ⟨rfl, rfl, q.2, by show lsnP (Sl.payN _ 4) < _; omega, rfl⟩
      · refine ⟨rfl, rfl, ?_, by show lsnP (blankP u j) < _; rw [lsnP_blank]; omega, rfl⟩
        show isP u j (blankP u j) = true
        rw [isP_blank u u j j hp.lim hp.lim]; simp
    generalize openF u j (d1.seen (placeC 4 u j)) = f' at hop hfo ⊢
    obtain ⟨f1, f2, f3, f4, f5⟩ := hfo
    have hmem : ∀ g ∈ takeF s1.fs i f', g ∈ s1.fs ∨ g = f' := fun g hg => by
      unfold takeF at hg
      split at hg
      · simpa using hg
      · exact List.mem_or_eq_of_mem_set hg
    have hat : (takeF s1.fs i f')[i]? = some f' := by
      have := vf.at_
      have := vf.len
      unfold takeF
      split
      · rename_i e; rw [e]; simp
      · rw [List.getElem?_set_self (by omega)]
    refine ⟨⟨hst.pi, hst.at_, hst.size, hst.dl, hst.fz, hst.pages, hst.undo, fun g hg => ?_, hst.blk, fun u2 j2 hp2 hq => ?_⟩, fun _ => ⟨f', hat, hop.1⟩⟩
    · rcases hmem g hg with y | y
      · exact hst.fr g y
      · rw [y, f1, f2]; exact ⟨f3, f4, hop.1⟩
    · refine hst.rest u2 j2 hp2 fun g hg e1 e2 => ?_
      obtain ⟨n, hn, hne⟩ := List.mem_iff_getElem.1 hg
      have hgn : s1.fs[n]? = some g := by rw [← hne]; exact List.getElem?_eq_getElem hn
      by_cases hni : n = i
      · subst hni; exact v3 rfl g hgn
      · refine hq g (List.mem_of_getElem? (i := n) ?_) e1 e2
        show (takeF s1.fs i f')[n]? = some g
        unfold takeF
        split
        · rw [List.getElem?_append_left hn]; exact hgn
        · rw [List.getElem?_set_ne (Ne.symm hni)]; exact hgn
theorem isC_pg {s : Cs} {u : Bool} {j : Int} (h1 : s.pages = 4) (h2 : s.undo = 5) (hj : 0 ≤ j) : isC s u j = true ↔ Pg u j := by
  unfold isC Pg
  rw [h1, h2]
  cases u <;> simp [hj]
theorem St.fetch {s : Cs} {l : Lg} {d : Dsk} {k : Nat} {last : Bool → Int → List Int} (h : St s l d k last) (ok : s.Ok) (hk : k ≤ 1000) {u : Bool} {j : Int} (hj : 0 ≤ j) {p : List Int} {E : Int} {s' : Cs} {l' : Lg} {d' : Dsk} (v : Fetches s l d u j p E s' l' d') :
    St s' l' d' (k + 1) last ∧ (E = 0 → p = last u j ∧ Pg u j) := by
  rcases v with ⟨h1, rfl, rfl, rfl, rfl, rfl⟩ | ⟨h0, i, f, h1, h2, rfl, rfl, rfl, rfl, rfl⟩ | ⟨h0, h1, i1, E1, s1, hl, ⟨h2, rfl, rfl, rfl⟩ | ⟨rfl, rfl, rfl, f, hf, rfl⟩⟩
  · exact ⟨h.mono (by omega), fun q => by cases q⟩
  · refine ⟨(h.same (s' := fetchP s i) rfl rfl rfl).mono (by omega), fun _ => ⟨?_, (isC_pg h.pages h.undo hj).1 h0⟩⟩
    obtain ⟨g, hg, e1, e2⟩ := posF_some h1
    rw [h2] at hg; cases hg
    rw [(h.fr f (List.mem_of_getElem? h2)).2.2, e1, e2]
  · have hp := (isC_pg h.pages h.undo hj).1 h0
    exact ⟨(h.load ok hk hp h1 hl).1, fun q => absurd q h2⟩
  · have hp := (isC_pg h.pages h.undo hj).1 h0
    obtain ⟨q1, q2⟩ := h.load ok hk hp h1 hl
    refine ⟨q1.same rfl rfl rfl, fun _ => ⟨?_, hp⟩⟩
    obtain ⟨g, hg, e⟩ := q2 rfl
    rw [hf] at hg; cases hg; exact e
def lastP (last : Bool → Int → List Int) (u : Bool) (j : Int) (p : List Int) : Bool → Int → List Int := fun u' j' => if u' = u ∧ j' = j then p else last u' j'
theorem St.put {s : Cs} {l : Lg} {d : Dsk} {k : Nat} {last : Bool → Int → List Int} (h : St s l d k last) (ok : s.Ok) {u : Bool} {j : Int} {p : List Int} (hl : lsnP p < l.fin) :
    St (putS s u j p) l d k (if putE s u j p = 0 then lastP last u j p else last) := by
  unfold putS
  by_cases h0 : putE s u j p = 0
  · rw [if_pos h0, if_pos h0]
    have hip : pinsC s u j ≠ 0 ∧ isP u j p = true := by
      unfold putE at h0
      split at h0
      · cases h0
      · rename_i q
        split at h0
        · rename_i q2; exact ⟨q, q2⟩
        · cases h0
    cases hp : posF s.fs u j with
    | none => exact absurd (by unfold pinsC; rw [hp]) hip.1
    | some i =>
      obtain ⟨f, hf, e1, e2⟩ := posF_some hp
      show St (match s.fs[i]? with | some f => { s with fs := s.fs.set i (putF f p) } | none => s) l d k _
      rw [hf]
      have hat : (s.fs.set i (putF f p))[i]? = some (putF f p) := by rw [List.getElem?_set_self (List.getElem?_eq_some_iff.1 hf).1]
      refine ⟨h.pi, h.at_, h.size, h.dl, h.fz, h.pages, h.undo, fun g hg => ?_, h.blk, fun u2 j2 hp2 hq => ?_⟩
      · obtain ⟨n, hn, hne⟩ := List.mem_iff_getElem.1 hg
        have hgn : (s.fs.set i (putF f p))[n]? = some g := by rw [← hne]; exact List.getElem?_eq_getElem hn
        unfold lastP
        by_cases hni : n = i
        · subst hni
          rw [hat] at hgn; cases hgn
          refine ⟨by show isP f.un f.no p = true; rw [e1, e2]; exact hip.2, hl, ?_⟩
          show p = if f.un = u ∧ f.no = j then p else _
          rw [if_pos ⟨e1, e2⟩]
        · rw [List.getElem?_set_ne (Ne.symm hni)] at hgn
          obtain ⟨b1, b2, b3⟩ := h.fr g (List.mem_of_getElem? hgn)
          refine ⟨b1, b2, ?_⟩
          by_cases q : g.un = u ∧ g.no = j
          · exact absurd (ok.one n i g f hgn hf (q.1.trans e1.symm) (q.2.trans e2.symm)) hni
          · rw [if_neg q]; exact b3
      · by_cases q : u2 = u ∧ j2 = j
        · have := hq (putF f p) (List.mem_of_getElem? hat) (by show f.un = u2; rw [e1, q.1]) (by show f.no = j2; rw [e2, q.2])
          cases this
        · unfold lastP
          rw [if_neg q]
          refine h.rest u2 j2 hp2 fun g hg a1 a2 => hq g ?_ a1 a2
          obtain ⟨n, hn, hne⟩ := List.mem_iff_getElem.1 hg
          have hgn : s.fs[n]? = some g := by rw [← hne]; exact List.getElem?_eq_getElem hn
          have hni : n ≠ i := fun z => by
            subst z
            rw [hf] at hgn; cases hgn
            exact q ⟨a1.symm.trans e1, a2.symm.trans e2⟩
          refine List.mem_of_getElem? (i := n) ?_
          show (s.fs.set i _)[n]? = some g
          rw [List.getElem?_set_ne (Ne.symm hni)]; exact hgn
  · rw [if_neg h0, if_neg h0]; exact h
theorem appL_told (l : Lg) (t : ByteArray) : (appL l t).at_ = l.at_ ∧ (appL l t).size = l.size ∧ (appL l t).dur = l.dur ∧ l.fin ≤ (appL l t).fin ∧ (appE l t = 0 → appA l t = l.fin ∧ l.fin < (appL l t).fin) := by
  have hE : appE l t = 0 → okA l t = true := fun h => by
    unfold appE at h
    unfold okA
    split at h
    · rename_i h1
      split at h
      · cases h
      · rename_i h2
        rw [h1]; simp at h2 ⊢; exact h2
    · cases h
  by_cases h : okA l t = true
  · have e : appL l t = l.app (frS t) := by unfold appL; rw [if_pos h]
    have hs : okF t = true := by unfold okA at h; simp at h; exact h.1
    have hF := frS_size hs
    have hfin : (l.app (frS t)).fin = l.fin + (frS t).size := by unfold Lg.app; rw [sealN_fin]; rfl
    have hat : (l.app (frS t)).at_ = l.at_ := by unfold Lg.app; rw [sealN_at]; rfl
    have hz : (l.app (frS t)).size = l.size := by unfold Lg.app; rw [sealN_size]; rfl
    have hd : (l.app (frS t)).dur = l.dur := by unfold Lg.app; rw [sealN_dur]; rfl
    rw [e]
    exact ⟨hat, hz, hd, by rw [hfin]; omega, fun _ => ⟨by unfold appA; rw [if_pos h], by rw [hfin]; omega⟩⟩
  · have e : appL l t = l := by unfold appL; rw [if_neg h]
    rw [e]
    exact ⟨rfl, rfl, rfl, Int.le_refl _, fun q => absurd (hE q) h⟩
theorem St.append {s : Cs} {l : Lg} {d : Dsk} {k : Nat} {last : Bool → Int → List Int} (h : St s l d k last) (hk : k ≤ 1000) (t : ByteArray) : St s (appL l t) d (k + 1) last := by
  obtain ⟨a1, a2, a3, a4, a5⟩ := appL_told l t
  have hd := h.dl
  exact h.keep rfl rfl rfl (h.pi.app hk t) a1 a2 ⟨by omega, by omega⟩ a4 (h.fz.mono (by omega)) (fun b _ => Keep.refl d b)
theorem St.plan {s : Cs} {l : Lg} {d : Dsk} {k : Nat} {last : Bool → Int → List Int} (h : St s l d k last) (zl : List Int) : St s l (d.plan zl 0) k last :=
  h.keep rfl rfl rfl h.pi rfl rfl ⟨Int.le_refl _, h.dl.2⟩ (Int.le_refl _) ⟨h.fz.size, rfl, h.fz.on, (by show (0 : Int) ≤ 0; omega), (by show (0 : Int) ≤ _; omega)⟩ (fun b _ => Keep.same rfl rfl b)
theorem St.write {s : Cs} {l : Lg} {d : Dsk} {k : Nat} {last : Bool → Int → List Int} (h : St s l d k last) (ok : s.Ok) (hk : k ≤ 1000) (u : Bool) (j : Int) : St (writeR s l d u j).2.1 (writeR s l d u j).2.2.1 (writeR s l d u j).2.2.2 (k + 1) last ∧ ((writeR s l d u j).1 = 0 → cleanC (writeR s l d u j).2.1 u j = true) := by
  unfold writeR
  cases hp : posF s.fs u j with
  | none => exact ⟨h.mono (by omega), fun q => by cases q⟩
  | some i =>
    obtain ⟨f, hf, e1, e2⟩ := posF_some hp
    simp only [hf]
    by_cases hd : f.dirty = true
    · rw [if_pos hd]
      obtain ⟨w1, w2, w3⟩ := h.wb ok hk hf hd
      by_cases q : (wbR s l d f).1 = 0
      · rw [if_pos q]
        refine ⟨w1 q, fun _ => ?_⟩
        have hat : (s.fs.set i { f with dirty := false })[i]? = some { f with dirty := false } := by rw [List.getElem?_set_self (List.getElem?_eq_some_iff.1 hf).1]
        have hps : posF (cleanF s i f).fs u j = some i := by
          rw [cleanF_fs, posF_set (f' := { f with dirty := false }) hf rfl rfl]; exact hp
        unfold cleanC
        rw [hps]
        show (!((cleanF s i f).fs[i]?.map Fm.dirty).getD false) = true
        rw [cleanF_fs, hat]; rfl
      · rw [if_neg q]
        exact ⟨w2 q, fun q2 => absurd q2 q⟩
    · rw [if_neg hd]
      refine ⟨h.mono (by omega), fun _ => ?_⟩
      unfold cleanC
      rw [hp]
      show (!((s.fs[i]?.map Fm.dirty).getD false)) = true
      rw [hf]
      show (!f.dirty) = true
      simpa using hd
theorem pins_same (s : Cs) (u : Bool) (j : Int) : ((unpinS s u j).pages = s.pages ∧ (unpinS s u j).undo = s.undo ∧ (unpinS s u j).fs = s.fs) := by
  unfold unpinS setPins
  split
  · split <;> exact ⟨rfl, rfl, rfl⟩
  · exact ⟨rfl, rfl, rfl⟩
theorem cold_same (s : Cs) (u : Bool) (j : Int) (b : Bool) : ((coldS s u j b).pages = s.pages ∧ (coldS s u j b).undo = s.undo ∧ (coldS s u j b).fs = s.fs) := by
  unfold coldS setCold
  split <;> exact ⟨rfl, rfl, rfl⟩
theorem St.lsn {s : Cs} {l : Lg} {d : Dsk} {k : Nat} {last : Bool → Int → List Int} (h : St s l d k last) (hk : k ≤ 1000) : 0 ≤ l.fin ∧ l.fin ≤ 18446744073709551615 := by
  have := h.pi.fin
  have := h.dl
  omega
theorem St.do_ {w : World} {s : Cs} {l : Lg} {d : Dsk} {k : Nat} {last : Bool → Int → List Int} (h : St s l d k last) (ok : s.Ok) (hk : k ≤ 1000) {o : XO} (ho : o.Ok w) {s' : Cs} {l' : Lg} {d' : Dsk} (q : DoR s l d o s' l' d') :
    ∃ last', St s' l' d' (k + 1) last' ∧ (o.kd ≠ 2 → last' = last) := by
  have hj : 0 ≤ o.k := ho.k.1
  rcases q with ⟨h1, p, E, v⟩ | ⟨h1, rfl, rfl, rfl⟩ | ⟨h1, rfl, rfl, rfl⟩ | ⟨h1, rfl, rfl, rfl⟩ | ⟨h1, rfl, rfl, rfl⟩ | ⟨h1, rfl, rfl, rfl⟩ | ⟨h1, rfl, rfl, rfl⟩ | ⟨_, _, _, _, _, _, _, rfl, rfl, rfl⟩
  · exact ⟨last, (h.fetch ok hk hj v).1, fun _ => rfl⟩
  · obtain ⟨a, b, c⟩ := pins_same s o.u o.k
    exact ⟨last, (h.same a b c).mono (by omega), fun _ => rfl⟩
  · have ha := h.append hk putB3
    by_cases q : appE l putB3 = 0
    · rw [if_pos q]
      obtain ⟨_, _, _, _, a5⟩ := appL_told l putB3
      obtain ⟨b1, b2⟩ := a5 q
      refine ⟨_, ha.put ok (u := o.u) (j := o.k) (p := fillP o.u o.k o.b (appA l putB3)) ?_, fun z => absurd h1 z⟩
      rw [b1, lsnP_fill _ _ _ _ ho.b (h.lsn hk)]; exact b2
    · rw [if_neg q]; exact ⟨last, ha, fun _ => rfl⟩
  · exact ⟨last, (h.write ok hk o.u o.k).1, fun _ => rfl⟩
  · obtain ⟨a, b, c⟩ := cold_same s o.u o.k (decide (o.b % 2 = 1))
    exact ⟨last, (h.same a b c).mono (by omega), fun _ => rfl⟩
  · exact ⟨last, h.append hk moreB4, fun _ => rfl⟩
  · exact ⟨last, (h.plan o.zl).mono (by omega), fun _ => rfl⟩
  · exact ⟨last, h.mono (by omega), fun _ => rfl⟩
theorem St.start (fr : Nat) : St (newC 4 5 fr) log0 (Dsk.new 60) 0 blankP := by
  have hz : ∀ b, (Dsk.new 60).seen b = zs 256 := fun b => new_seen 60 b
  have hp0 : ∀ u j, isP u j (zs 224) = false := fun u j => by
    cases u with
    | false => exact isD_zs j
    | true =>
      cases q : isP true j (zs 224) with
      | false => rfl
      | true =>
        have h1 : isU j (zs 224) = true := q
        unfold isU at h1
        rw [show uOf (zs 224) = [] from by decide +kernel, show lsnOf (zs 224) = 0 from by decide +kernel] at h1
        simp only [Bool.and_eq_true, decide_eq_true_eq] at h1
        have h2 := blankP_head true j
        have h3 : blankP true j = zs 224 := h1.2
        rw [h3] at h2
        exact absurd (show (zs 224).getD 0 0 = 0 from by decide) h2
  refine ⟨⟨log0_inv, fun _ _ => rfl, by decide⟩, rfl, rfl, by decide, ⟨rfl, rfl, rfl, by decide, by decide⟩, rfl, rfl, (fun f hf => by cases hf), fun u j hp => ?_, fun u j hp _ => ?_⟩
  · rw [hz]
    exact ⟨by decide +kernel, by decide +kernel⟩
  · rw [hz, open_zs u j (hp0 u j)]
    exact ⟨rfl, by rw [← seen_none _ rfl, hz]⟩
structure Sit (w0 : World) (F : Nat → Prop) (gc gd gl gk ak : Nat) (s : Cs) (l : Lg) (d : Dsk) (k : Nat) (last : Bool → Int → List Int) (W : World) : Prop where
  cs : CS w0 F gc gd gl gk ak s l d (k : Int) (4004 * k) W
  st : St s l d k last
theorem Sit.below {w0 : World} {F : Nat → Prop} {gc gd gl gk ak : Nat} {s : Cs} {l : Lg} {d : Dsk} {k : Nat} {last : Bool → Int → List Int} {W W' : World} (h : Sit w0 F gc gd gl gk ak s l d k last W) (hb : Below W.heap.size W W') : Sit w0 F gc gd gl gk ak s l d k last W' := ⟨h.cs.below hb, h.st⟩
def SitQ (w0 : World) (F : Nat → Prop) (gc gd gl gk ak : Nat) (k : Nat) (P : (Bool → Int → List Int) → Prop) (W : World) (w' : World) : Prop :=
  ∃ F' s' l' d' last', Sit w0 F' gc gd gl gk ak s' l' d' (k + 1) last' w' ∧ Tr F W F' w' ∧ P last'
theorem Sit.to {w0 : World} {F : Nat → Prop} {gc gd gl gk ak : Nat} {s s' : Cs} {l l' : Lg} {d d' : Dsk} {k : Nat} {last last' : Bool → Int → List Int} {W w' : World} (h : Sit w0 F gc gd gl gk ak s l d k last W) (hk : k ≤ 1000) {M : Int} {N : Nat} (hst : CStep W F gc gd gl gk ak s' l' d' M N w') (hM : M ≤ k + 1) (hN : N ≤ 4004 * k + 4004) (st : St s' l' d' (k + 1) last') {P : (Bool → Int → List Int) → Prop} (hP : P last') : SitQ w0 F gc gd gl gk ak k P W w' := by
  have h2 : CStep W F gc gd gl gk ak s' l' d' ((k + 1 : Nat) : Int) (4004 * (k + 1)) w' := (hst.growM (M' := ((k + 1 : Nat) : Int)) (by push_cast; omega) (by push_cast; omega)).grow (by omega) (by omega)
  obtain ⟨F', c1, c2⟩ := h.cs.step h2
  exact ⟨F', s', l', d', last', ⟨c1, st⟩, c2, hP⟩
theorem Sit.ops {w0 : World} {F : Nat → Prop} {gc gd gl gk ak : Nat} {s : Cs} {l : Lg} {d : Dsk} {k : Nat} {last : Bool → Int → List Int} {W : World} (h : Sit w0 F gc gd gl gk ak s l d k last W) (hk : k ≤ 1000) : d.ops + 4000 < 9223372036854775806 ∧ l.fin ≤ 9223372036854775807 := by
  have h1 := h.st.fz.hi
  have h2 := h.st.pi.fin
  omega
theorem Sit.do_ {w0 : World} {F : Nat → Prop} {gc gd gl gk ak : Nat} {s : Cs} {l : Lg} {d : Dsk} {k : Nat} {last : Bool → Int → List Int} {W : World} (h : Sit w0 F gc gd gl gk ak s l d k last W) (hk : k ≤ 1000) {o : XO} (ho : o.Ok W) : Calls Try.prog 9 #[.pointer (some ⟨gd, 0, none⟩), .pointer (some ⟨gl, 0, none⟩), .pointer (some ⟨gc, 0, none⟩), .agg o.cells.toArray] W fun e w' => e = .returned (.tuple #[]) ∧ SitQ w0 F gc gd gl gk ak k (fun last' => o.kd ≠ 2 → last' = last) W w' := by
  obtain ⟨h1, h2⟩ := h.ops hk
  refine (do_any h.cs.2.1 o ho h.st.pi.inv h2 h1 (by omega) (by omega)).mono ?_
  rintro e w' ⟨s', l', d', hq, rfl, hst⟩
  obtain ⟨last', st', hl⟩ := h.st.do_ h.cs.2.1.ok hk ho hq
  exact ⟨rfl, h.to hk hst (by omega) (by omega) st' hl⟩
theorem Sit.start {w : World} {fr : Nat} {e : Ending} {w' : World} (h : OverQ w fr e w') : ∃ gd gl gc gk ak F, e = .returned (.tuple #[.pointer (some ⟨gd, 0, none⟩), .pointer (some ⟨gl, 0, none⟩), .pointer (some ⟨gc, 0, none⟩)]) ∧ Sit w F gc gd gl gk ak (newC 4 5 fr) log0 (Dsk.new 60) 0 blankP w' := by
  obtain ⟨gd, gl, gc, gk, ak, F, he, hb, hc, hF⟩ := h
  exact ⟨gd, gl, gc, gk, ak, F, he, ⟨⟨hb, hc, hF⟩, St.start fr⟩⟩
theorem Sit.seen {w0 : World} {F : Nat → Prop} {gc gd gl gk ak : Nat} {s : Cs} {l : Lg} {d : Dsk} {k : Nat} {last : Bool → Int → List Int} {W : World} (h : Sit w0 F gc gd gl gk ak s l d k last W) (b : Int) (hb : 2 ≤ b ∧ b ≤ 10) : Calls Try.prog 11 #[.pointer (some ⟨gd, 0, none⟩), .int .i64 b] W (fun e w' => e = .returned (.agg (bs (d.seen b))) ∧ Below W.heap.size W w') ∧ (d.seen b).length = 256 ∧ Bytes (d.seen b) ∧ wholeB (d.seen b) = true ∧ lsnP (Sl.payN (d.seen b) 4) < l.dur := by
  obtain ⟨fv, m, n, vl, vs, L, cA, lD, hdis, hF⟩ := h.cs.2.1.ex
  have hn : 0 ≤ b ∧ b < d.n := by rw [h.st.fz.size]; omega
  obtain ⟨u, j, hp, e⟩ := Pg.at_ hb
  have hk := h.st.blk u j hp
  rw [e] at hk
  have hl := Dsk.seen_length lD.dsk b hn
  exact ⟨seen_in lD.dsk b hn, hl.1, hl.2, hk⟩
theorem Sit.dur {w0 : World} {F : Nat → Prop} {gc gd gl gk ak : Nat} {s : Cs} {l : Lg} {d : Dsk} {k : Nat} {last : Bool → Int → List Int} {W : World} (h : Sit w0 F gc gd gl gk ak s l d k last W) : Calls Try.prog 13 #[.pointer (some ⟨gl, 0, none⟩)] W fun e w' => e = .returned (.int .u64 l.dur) ∧ Below W.heap.size W w' := by
  obtain ⟨fv, m, n, vl, vs, L, cA, lD, hdis, hF⟩ := h.cs.2.1.ex
  exact dur_any gl _ vl vs l W lD.row
theorem row_puts {g : Nat} {t : TypeId} : ∀ (p : List Int) (o : Nat) (w : World) (X : List Int), Row w g (bs X) t → o + p.length ≤ X.length → Row (w.setCells g o (bs p).toList) g (bs (splice X o p)) t
  | [], o, w, X, h, _ => by
    have : splice X o [] = X := by unfold splice; simp
    rw [this]; exact h
  | v :: r, o, w, X, h, hl => by
    simp only [List.length_cons] at hl
    rw [← splice_next X o v r (by omega)]
    have e : (bs (v :: r)).toList = .int .u8 v :: (bs r).toList := by simp [bs]
    rw [e]
    exact row_puts r (o + 1) _ _ (row_setCell h o v) (by rw [List.length_set]; omega)
theorem flat_lenP : ∀ {ps : List (List Int)}, (∀ p ∈ ps, p.length = 224) → ps.flatten.length = ps.length * 224
  | [], _ => rfl
  | p :: r, h => by
    rw [List.flatten_cons, List.length_append, h p List.mem_cons_self, flat_lenP (fun q hq => h q (List.mem_cons_of_mem _ hq)), List.length_cons]; omega
theorem flat_atP : ∀ {ps : List (List Int)}, (∀ p ∈ ps, p.length = 224) → ∀ (i j : Nat) (p : List Int), ps[i]? = some p → j < 224 → ps.flatten[i * 224 + j]? = p[j]?
  | [], _, i, j, p, h, _ => by simp at h
  | c :: r, hl, 0, j, p, h, hj => by
    simp at h; subst h
    rw [List.flatten_cons, Nat.zero_mul, Nat.zero_add, List.getElem?_append_left (by rw [hl c List.mem_cons_self]; exact hj)]
  | c :: r, hl, i + 1, j, p, h, hj => by
    have hc := hl c List.mem_cons_self
    rw [List.flatten_cons, List.getElem?_append_right (by rw [hc]; omega), hc, show (i + 1) * 224 + j - 224 = i * 224 + j by omega]
    exact flat_atP (fun d hd => hl d (List.mem_cons_of_mem _ hd)) i j p (by simpa using h) hj
theorem flat_setP : ∀ {ps : List (List Int)}, (∀ p ∈ ps, p.length = 224) → ∀ (i : Nat) (p : List Int), i < ps.length → p.length = 224 → splice ps.flatten (i * 224) p = (ps.set i p).flatten
  | [], _, i, p, h, _ => by simp at h
  | c :: r, hl, 0, p, h, hp => by
    have hc := hl c List.mem_cons_self
    show splice (c :: r).flatten (0 * 224) p = (p :: r).flatten
    rw [List.flatten_cons, List.flatten_cons, Nat.zero_mul]
    unfold splice
    rw [List.take_zero, Nat.zero_add, hp, List.drop_append_of_le_length (by omega), List.drop_of_length_le (by omega)]
    simp
  | c :: r, hl, i + 1, p, h, hp => by
    have hc := hl c List.mem_cons_self
    have ih := flat_setP (fun d hd => hl d (List.mem_cons_of_mem _ hd)) i p (by simpa using h) hp
    show splice (c :: r).flatten ((i + 1) * 224) p = (c :: r.set i p).flatten
    rw [List.flatten_cons, List.flatten_cons, ← ih]
    unfold splice
    have e1 : (i + 1) * 224 = c.length + i * 224 := by omega
    rw [e1, List.take_length_add_append, Nat.add_assoc, List.drop_length_add_append, List.append_assoc]
structure TB (F : Nat → Prop) (W : World) (A : Nat) (ty : TypeId) (n : Nat) (ps : List (List Int)) : Prop where
  loc : CLoc F W A (bs ps.flatten) ty
  len : ps.length = n
  ok : ∀ p ∈ ps, p.length = 224
theorem TB.tr {F F' : Nat → Prop} {W W' : World} {A : Nat} {ty : TypeId} {n : Nat} {ps : List (List Int)} (h : TB F W A ty n ps) (q : Tr F W F' W') : TB F' W' A ty n ps := ⟨h.loc.tr q, h.len, h.ok⟩
theorem TB.below {F : Nat → Prop} {W W' : World} {A : Nat} {ty : TypeId} {n : Nat} {ps : List (List Int)} (h : TB F W A ty n ps) (hb : Below W.heap.size W W') : TB F W' A ty n ps := ⟨h.loc.below hb, h.len, h.ok⟩
theorem TB.cells {F : Nat → Prop} {W : World} {A : Nat} {ty : TypeId} {n : Nat} {ps : List (List Int)} (h : TB F W A ty n ps) {m : Nat} {p : List Int} (hm : ps[m]? = some p) {w' : World} (hr : Row w' A (bs ps.flatten) ty) : ∀ j v, (p.map (Value.int .u8))[j]? = some v → w'.cell? ((⟨A, m * 224, none⟩ : Addr).add j) = some v := fun j v hj => by
  rw [Addr.add_mid]
  rw [List.getElem?_map] at hj
  have hl := h.ok p (List.mem_of_getElem? hm)
  cases e : p[j]? with
  | none => rw [e] at hj; cases hj
  | some x =>
    rw [e] at hj
    have hj2 : j < 224 := by have := (List.getElem?_eq_some_iff.1 e).1; omega
    have := flat_atP h.ok m j p hm hj2
    refine row_at hr (m * 224 + j) v ?_
    unfold bs
    rw [List.getElem?_toArray, List.getElem?_map, this, e]; exact hj
theorem TB.there {F : Nat → Prop} {W : World} {A : Nat} {ty : TypeId} {n : Nat} {ps : List (List Int)} (h : TB F W A ty n ps) {m : Nat} (hm : m < n) : W.there A (m * 224) 224 := fun j hj => by
  have hl := flat_lenP h.ok
  have hlt : m * 224 + j < ps.flatten.length := by rw [hl, h.len]; omega
  have hc := row_at h.loc.1 (m * 224 + j) (.int .u8 ps.flatten[m * 224 + j]) (by unfold bs; rw [List.getElem?_toArray, List.getElem?_map, List.getElem?_eq_getElem hlt]; rfl)
  exact ⟨by rw [hc]; rfl, row_frozen h.loc.1 _⟩
theorem TB.set {F : Nat → Prop} {W : World} {A : Nat} {ty : TypeId} {n : Nat} {ps : List (List Int)} (h : TB F W A ty n ps) {m : Nat} (hm : m < n) {p : List Int} (hp : p.length = 224) : TB F (W.setCells A (m * 224) (bs p).toList) A ty n (ps.set m p) := by
  have hl := flat_lenP h.ok
  refine ⟨⟨?_, h.loc.2⟩, by rw [List.length_set]; exact h.len, fun q hq => ?_⟩
  · rw [← flat_setP h.ok m p (by rw [h.len]; exact hm) hp]
    exact row_puts p (m * 224) W _ h.loc.1 (by rw [hl, h.len, hp]; omega)
  · rcases List.mem_or_eq_of_mem_set hq with y | y
    · exact h.ok q y
    · rw [y]; exact hp
def Told (last : Bool → Int → List Int) (ps : List (List Int)) : Prop := ∀ (u : Bool) (j : Nat), j < 16 → ps[(if u = true then 16 else 0) + j]? = some (last u j)
theorem Told.put {last : Bool → Int → List Int} {ps : List (List Int)} (h : Told last ps) (hl : ps.length = 32) (u : Bool) {j : Nat} (hj : j < 16) (p : List Int) : Told (lastP last u j p) (ps.set ((if u = true then 16 else 0) + j) p) := fun u2 j2 hj2 => by
  unfold lastP
  by_cases e : u2 = u ∧ (j2 : Int) = (j : Int)
  · obtain ⟨rfl, e2⟩ := e
    have : j2 = j := by omega
    subst this
    rw [List.getElem?_set_self (by rw [hl]; cases u2 <;> simp <;> omega)]
    simp
  · rw [if_neg e, List.getElem?_set_ne ?_]
    · exact h u2 j2 hj2
    · intro q
      cases u <;> cases u2 <;> simp at q e <;> omega
theorem Sit.setCells {w0 : World} {F : Nat → Prop} {gc gd gl gk ak : Nat} {s : Cs} {l : Lg} {d : Dsk} {k : Nat} {last : Bool → Int → List Int} {W : World} (h : Sit w0 F gc gd gl gk ak s l d k last W) {A : Nat} (hA : w0.heap.size ≤ A) (hn : ¬ F A) (o : Nat) (vs : List Value) : Sit w0 F gc gd gl gk ak s l d k last (W.setCells A o vs) := by
  have O : Off (· = A) W (W.setCells A o vs) := Off.of_setCells A vs o W
  exact ⟨⟨Below.trans h.cs.1 (O.below h.cs.1.size fun j q => by rw [q]; exact hA), h.cs.2.1.off O (fun j q e => hn (by rw [← e]; exact q)), h.cs.2.2⟩, h.st⟩
end Go.Proofs.Ytehogiondcpbcaa
