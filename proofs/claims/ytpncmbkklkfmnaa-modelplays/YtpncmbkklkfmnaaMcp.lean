/-
  Plain facts: pages that have one version more.
-/
import Derived.Test.YtpncmbkklkfmnaaMcc
import Derived.Deep.AppendLies
import Derived.Great.BuildSlice
namespace Go.Proofs.Ytpncmbkklkfmnaa
open Go.ChangeShapes Go.WideShapes Go.ChangeAt Go.RowKit
open Go.Deep Go.Maps
set_option linter.unusedVariables false
set_option linter.unusedSimpArgs false
set_option maxRecDepth 20000


theorem ownsRow_one {w : World} {base : Nat} {e : TypeId} {g n cap : Nat} {xs : List Value} (h : w.ownsRow base e 1 (.slice (some ⟨g, 0, none⟩) n cap) n xs) (k : Nat) (u : Value) :
    (w.setCell ⟨g, k, none⟩ u).ownsRow base e 1 (.slice (some ⟨g, 0, none⟩) n cap) n (xs.set k u) := by
  obtain ⟨h1, h2⟩ := h
  refine ⟨by rw [List.length_set]; exact h1, ?_⟩
  rcases h2 with ⟨q, _⟩ | ⟨g', cap', cur, q, hb, hg, hn, hm, hs, ht⟩
  · cases q
  · injection q with q1 q2 q3
    injection q1 with q1
    injection q1 with q1
    subst q1 q3
    refine Or.inr ⟨g, cap, cur.setIfInBounds k u, rfl, hb, row_set hg k u, hn, hm, by rw [Array.size_setIfInBounds]; exact hs, ?_⟩
    rw [Array.toList_setIfInBounds, ← ht, List.take_set]
/-- Those pages that have come up have one version more. -/
def moreL (pages : List (List Ver)) (ws : List (Int × List Int)) (ts : Int) (left : Lit → Bool) : List (List Ver) := pages.mapIdx fun i vs => if (hasP ws i && !left (.int .u16 i)) = true then vs ++ [⟨ts, atP ws i⟩] else vs
theorem moreL_start (pages : List (List Ver)) (ws : List (Int × List Int)) (ts : Int) : moreL pages ws ts (fun k => Maps.has (setD ws) k) = pages := by
  unfold moreL
  refine List.ext_getElem? fun i => ?_
  rw [List.getElem?_mapIdx]
  cases h : pages[i]? with
  | none => rfl
  | some vs =>
    have e : (hasP ws (i : Int) && !Maps.has (setD ws) (.int .u16 (i : Int))) = false := by rw [setD_has]; cases hasP ws (i : Int) <;> rfl
    simp [e]
theorem moreL_end (pages : List (List Ver)) (ws : List (Int × List Int)) (ts : Int) (left : Lit → Bool) (h : ∀ k, left k = false) : moreL pages ws ts left = more pages ws ts := by
  unfold moreL more
  congr 1
  funext i vs
  rw [h]
  simp
theorem moreL_length (pages : List (List Ver)) (ws : List (Int × List Int)) (ts : Int) (left : Lit → Bool) : (moreL pages ws ts left).length = pages.length := by simp [moreL]
theorem moreL_at {pages : List (List Ver)} {ws : List (Int × List Int)} {ts : Int} {left : Lit → Bool} {k : Nat} (h : left (.int .u16 (k : Int)) = true) : (moreL pages ws ts left)[k]? = pages[k]? := by
  unfold moreL
  rw [List.getElem?_mapIdx]
  cases pages[k]? with
  | none => rfl
  | some vs => simp [h]
theorem moreL_step {pages : List (List Ver)} {ws : List (Int × List Int)} {ts : Int} {left : Lit → Bool} {k : Nat} {b : List Int} {vs : List Ver} (hr : ws.Pairwise fun p q => p.1 < q.1) (hm : ((k : Int), b) ∈ ws) (h : left (.int .u16 (k : Int)) = true) (hp : pages[k]? = some vs) :
    moreL pages ws ts (fun z => left z && !z.sameKey (.int .u16 (k : Int))) = (moreL pages ws ts left).set k (vs ++ [⟨ts, b⟩]) := by
  obtain ⟨ha, hh⟩ := at_mem hr hm
  refine List.ext_getElem? fun i => ?_
  have hk := (List.getElem?_eq_some_iff.1 hp).1
  rw [List.getElem?_set]
  by_cases e : k = i
  · subst e
    rw [if_pos rfl, if_pos (by rw [moreL_length]; exact hk)]
    unfold moreL
    rw [List.getElem?_mapIdx, hp]
    have q : (Lit.int .u16 (k : Int)).sameKey (.int .u16 (k : Int)) = true := by rw [same_u16]; simp
    simp [hh, q, ha]
  · rw [if_neg e]
    unfold moreL
    rw [List.getElem?_mapIdx, List.getElem?_mapIdx]
    have q : (Lit.int .u16 (i : Int)).sameKey (.int .u16 (k : Int)) = false := by rw [same_u16]; simp; omega
    simp [q]
theorem VsOk.later {l : Int} {vs : List Ver} (h : VsOk l vs) : VsOk (l + 1) vs := ⟨fun v hv => ⟨(h.ok v hv).1, by have := (h.ok v hv).2; omega⟩, h.first, h.rising, by have := h.len; omega⟩
theorem VsOk.snoc {l : Int} {vs : List Ver} (h : VsOk l vs) (h0 : 0 ≤ l) (h1 : l + 1 ≤ 4294967295) {b : List Int} (hb : Wr b) : VsOk (l + 1) (vs ++ [⟨l + 1, b⟩]) := by
  refine ⟨fun v hv => ?_, ?_, ?_, ?_⟩
  · rcases List.mem_append.1 hv with q | q
    · exact ⟨(h.ok v q).1, by have := (h.ok v q).2; omega⟩
    · simp at q
      subst q
      exact ⟨⟨by show (0 : Int) ≤ l + 1; omega, h1, hb⟩, Int.le_refl _⟩
  · obtain ⟨v, r, e, hv⟩ := h.first
    exact ⟨v, r ++ [⟨l + 1, b⟩], by rw [e]; rfl, hv⟩
  · refine List.pairwise_append.2 ⟨h.rising, List.pairwise_singleton _ _, fun a ha c hc => ?_⟩
    simp at hc
    subst hc
    have := (h.ok a ha).2
    show a.ts < l + 1
    omega
  · have := h.len
    rw [List.length_append]
    simp; omega
theorem more_ok {s : St} (ok : s.Ok) (hl : s.last < s.max) {ws : List (Int × List Int)} (hw : WsOk s.pages.length ws) (left : Lit → Bool) : St.Ok { s with last := s.last + 1, pages := moreL s.pages ws (s.last + 1) left } := by
  have hmx := ok.mx
  have hlo := ok.lo
  refine { n0 := by rw [moreL_length]; exact ok.n0, n1 := by rw [moreL_length]; exact ok.n1, vs := ?_, lo := by show (0 : Int) ≤ s.last + 1; omega, hi := by show s.last + 1 ≤ s.max; omega, mx := hmx, pos := ok.pos, keys := ok.keys, few := ok.few, tx := ?_ }
  · intro p hp
    obtain ⟨i, hi⟩ := List.mem_iff_getElem?.1 hp
    simp only [moreL, List.getElem?_mapIdx] at hi
    cases hq : s.pages[i]? with
    | none => rw [hq] at hi; cases hi
    | some vs =>
      rw [hq] at hi
      simp only [Option.map_some, Option.some.injEq] at hi
      have hv := ok.vs vs (List.mem_of_getElem? hq)
      rw [← hi]
      split
      · rename_i q
        simp only [Bool.and_eq_true] at q
        obtain ⟨b, hb⟩ := has_mem q.1
        rw [(at_mem hw.rising hb).1]
        exact hv.snoc hlo (by omega) (hw.wr _ hb).1
      · exact hv.later
  · intro t ht
    have := ok.tx t ht
    refine ⟨this.1, this.2.1, this.2.2.1, by have := this.2.2.2.1; show t.2.1 ≤ s.last + 1; omega, ?_⟩
    rw [moreL_length]
    exact this.2.2.2.2
theorem nodup_set : ∀ {l : List Nat} {x : Nat}, l.Nodup → x ∉ l → ∀ k, (l.set k x).Nodup
  | [], _, h, _, _ => h
  | a :: r, x, h, hx, 0 => by
    obtain ⟨h1, h2⟩ := List.nodup_cons.1 h
    exact List.nodup_cons.2 ⟨fun q => hx (List.mem_cons_of_mem _ q), h2⟩
  | a :: r, x, h, hx, k + 1 => by
    obtain ⟨h1, h2⟩ := List.nodup_cons.1 h
    refine List.nodup_cons.2 ⟨fun q => ?_, nodup_set h2 (fun q => hx (List.mem_cons_of_mem _ q)) k⟩
    rcases List.mem_or_eq_of_mem_set q with q | q
    · exact h1 q
    · exact hx (by rw [q]; simp)
/-- A page of a machine has got a version more: its versions lie in block gb now. -/
theorem MA.paged {w1 w2 : World} {F : Nat → Prop} {g : Nat} {m : M} (c : MA w1 F g m) {k : Nat} {p : Pg} (hp : m.ps[k]? = some p) (v : Ver) {gb cap : Nat}
    (own2 : w2.ownsRow 0 44 65 (.slice (some ⟨gb, 0, none⟩) (p.vs.length + 1) cap) (p.vs.length + 1) (flatV p.vs ++ v.cells)) (gr : w1.grownBy w2 (some p.b)) (hat : p.b = gb ∨ gb = w1.heap.size)
    (ok : (M.abs { m with ps := m.ps.set k ⟨gb, cap, p.vs ++ [v]⟩ }).Ok) :
    MA (w2.setCell ⟨m.pb, k, none⟩ (.slice (some ⟨gb, 0, none⟩) (p.vs.length + 1) cap)) (fun j => F j ∨ j = gb) g { m with ps := m.ps.set k ⟨gb, cap, p.vs ++ [v]⟩ } ∧
    Off (fun j => j = m.pb ∨ j = p.b) w1 (w2.setCell ⟨m.pb, k, none⟩ (.slice (some ⟨gb, 0, none⟩) (p.vs.length + 1) cap)) := by
  have a := c.at_
  have hpm := List.mem_of_getElem? hp
  have hkl := (List.getElem?_eq_some_iff.1 hp).1
  have O1 : Off (· = p.b) w1 w2 := Off.of_grown gr (fun j e => by cases e; rfl)
  have O2 : Off (· = m.pb) w2 (w2.setCell ⟨m.pb, k, none⟩ (.slice (some ⟨gb, 0, none⟩) (p.vs.length + 1) cap)) := Off.of_setCell _ _ _ rfl
  have OO : Off (fun j => j = m.pb ∨ j = p.b) w1 (w2.setCell ⟨m.pb, k, none⟩ (.slice (some ⟨gb, 0, none⟩) (p.vs.length + 1) cap)) := (O1.mono (fun j e => Or.inl (Or.inr e))).trans O2 (fun j e => Or.inl (Or.inl e))
  have hfp : F p.b := c.foot _ (Or.inr (Or.inr (Or.inr (Or.inl ⟨p, hpm, rfl⟩))))
  have npb : m.pb ≠ p.b := ne_types a.kp (a.kb hpm) (by decide)
  have kmap : ∀ j, isMap w1 j → ¬ (j = m.pb ∨ j = p.b) := fun j h q => by
    rcases q with rfl | rfl
    · exact ne_map a.kp h rfl
    · exact ne_map (a.kb hpm) h rfl
  have fresh : ¬ F w1.heap.size := fun q => by have := c.lt _ q; omega
  have hset : ∀ q, q ∈ m.ps.set k ⟨gb, cap, p.vs ++ [v]⟩ → q = ⟨gb, cap, p.vs ++ [v]⟩ ∨ (q ∈ m.ps ∧ q.b ≠ p.b) := fun q hq => by
    obtain ⟨i, hi⟩ := List.mem_iff_getElem?.1 hq
    rw [List.getElem?_set] at hi
    by_cases e : k = i
    · rw [if_pos e, if_pos hkl] at hi
      exact Or.inl (Option.some.inj hi).symm
    · rw [if_neg e] at hi
      refine Or.inr ⟨List.mem_of_getElem? hi, fun eb => e ?_⟩
      have n1 : (m.ps.map Pg.b)[i]? = some q.b := by rw [List.getElem?_map, hi]; rfl
      have n2 : (m.ps.map Pg.b)[k]? = some p.b := by rw [List.getElem?_map, hp]; rfl
      have hil : k < (m.ps.map Pg.b).length := by rw [List.length_map]; exact hkl
      exact (List.getElem?_inj hil a.pne).1 (by rw [n1, n2, eb])
  refine ⟨{ at_ := { row := ?_, prow := ?_, pown := ?_, pne := ?_, lown := ownsMap_off a.lown OO (kmap _ a.kl), wown := fun t ht => ownsMap_off (a.wown t ht) OO (kmap _ (a.km ht)), mne := a.mne, lne := a.lne }, ok := ok, foot := ?_, lt := ?_ }, OO⟩
  · have e : M.cells { m with ps := m.ps.set k ⟨gb, cap, p.vs ++ [v]⟩ } = m.cells := by simp [M.cells]
    rw [e]
    exact a.row.off OO (fun q => by
      rcases q with q | q
      · exact ne_types a.kp a.kg (by decide) q.symm
      · exact ne_types (a.kb hpm) a.kg (by decide) q.symm)
  · have h1 : w2.ownsRow 0 59 1 (.slice (some ⟨m.pb, 0, none⟩) m.ps.length m.pcap) m.ps.length (m.ps.map Pg.val) := ownsRow_off a.prow O1 (fun j e => by cases e; exact npb)
    have h2 := ownsRow_one h1 k (.slice (some ⟨gb, 0, none⟩) (p.vs.length + 1) cap)
    have e : (m.ps.set k ⟨gb, cap, p.vs ++ [v]⟩).map Pg.val = (m.ps.map Pg.val).set k (.slice (some ⟨gb, 0, none⟩) (p.vs.length + 1) cap) := by
      rw [List.map_set]
      congr 1
      simp [Pg.val]
    simp only [List.length_set]
    rw [e]
    exact h2
  · intro q hq
    rcases hset q hq with rfl | ⟨hq, hne⟩
    · have e : flatV (p.vs ++ [v]) = flatV p.vs ++ v.cells := by rw [flatV_append]; simp [flatV]
      have e2 : (p.vs ++ [v]).length = p.vs.length + 1 := by simp
      simp only [Pg.val]
      rw [e, e2]
      have ng : gb ≠ m.pb := by
        rcases hat with q | q
        · rw [← q]; exact npb.symm
        · intro q2
          have := c.lt _ (c.foot _ (Or.inr (Or.inl rfl)))
          omega
      exact ownsRow_off own2 O2 (fun j e => by cases e; exact ng)
    · exact ownsRow_off (a.pown q hq) OO (fun j e => by
        cases e
        intro h
        rcases h with h | h
        · exact ne_types a.kp (a.kb hq) (by decide) h.symm
        · exact hne h)
  · have e : (m.ps.set k ⟨gb, cap, p.vs ++ [v]⟩).map Pg.b = (m.ps.map Pg.b).set k gb := by rw [List.map_set]
    rw [e]
    rcases hat with q | q
    · have : (m.ps.map Pg.b).set k gb = m.ps.map Pg.b := by
        rw [← q]
        refine List.ext_getElem? fun i => ?_
        rw [List.getElem?_set]
        by_cases e : k = i
        · subst e
          rw [if_pos rfl, if_pos (by rw [List.length_map]; exact hkl), List.getElem?_map, hp]
          rfl
        · rw [if_neg e]
      rw [this]
      exact a.pne
    · have hn : gb ∉ m.ps.map Pg.b := fun h => by
        obtain ⟨z, hz, ez⟩ := List.mem_map.1 h
        exact fresh (by rw [← q, ← ez]; exact c.foot _ (Or.inr (Or.inr (Or.inr (Or.inl ⟨z, hz, rfl⟩)))))
      exact nodup_set a.pne hn k
  · intro j hj
    rcases hj with h | h | h | ⟨q, hq, h⟩ | h
    · exact Or.inl (c.foot _ (Or.inl h))
    · exact Or.inl (c.foot _ (Or.inr (Or.inl h)))
    · exact Or.inl (c.foot _ (Or.inr (Or.inr (Or.inl h))))
    · rcases hset q hq with rfl | ⟨hq, _⟩
      · exact Or.inr h
      · exact Or.inl (c.foot _ (Or.inr (Or.inr (Or.inr (Or.inl ⟨q, hq, h⟩)))))
    · exact Or.inl (c.foot _ (Or.inr (Or.inr (Or.inr (Or.inr h)))))
  · intro j hj
    have h2 : (w2.setCell ⟨m.pb, k, none⟩ (.slice (some ⟨gb, 0, none⟩) (p.vs.length + 1) cap)).heap.size = w2.heap.size := by
      have := O2.size
      simp [World.setCell] at this ⊢
      try omega
    rcases hj with h | h
    · exact Nat.lt_of_lt_of_le (c.lt j h) OO.size
    · rw [h, h2]
      exact (World.ownsRow.lt own2 gb rfl).2
/-- Where a commit's machine has come to, while its pages come up. -/
def Paged (w : World) (F : Nat → Prop) (g : Nat) (m : M) (ws : List (Int × List Int)) (left : Lit → Bool) (wr : World) : Prop :=
  Off F w wr ∧ ∃ F' ps, MA wr F' g { m with last := m.last + 1, ps := ps } ∧ ps.map Pg.vs = moreL (m.ps.map Pg.vs) ws (m.last + 1) left ∧ ∀ k, k < w.heap.size → F' k → F k
theorem Paged.off {w : World} {F G : Nat → Prop} {g : Nat} {m : M} {ws : List (Int × List Int)} {left : Lit → Bool} {w1 w2 : World} (h : Paged w F g m ws left w1) (ho : Off G w1 w2) (hG : ∀ k, G k → w.heap.size ≤ k ∧ ¬ isCells w1 k 58 ∧ ¬ isCells w1 k 59 ∧ ¬ isCells w1 k 44 ∧ ¬ isMap w1 k) : Paged w F g m ws left w2 := by
  obtain ⟨o, F', ps, c, e, hF⟩ := h
  refine ⟨o.trans ho (fun j q => Or.inr (hG j q).1), fun j => F' j ∧ ¬ G j, ps, ?_, e, fun k hk q => hF k hk q.1⟩
  have a := c.at_
  have foot : ∀ k, M.foot { m with last := m.last + 1, ps := ps } g k → F' k ∧ ¬ G k := fun k hk => ⟨c.foot k hk, fun q => by
    have hq := hG k q
    rcases hk with h | h | h | ⟨p, hp, h⟩ | ⟨t, ht, h⟩
    · exact hq.2.1 (by rw [h]; exact a.kg)
    · exact hq.2.2.1 (by rw [h]; exact a.kp)
    · exact hq.2.2.2.2 (by rw [h]; exact a.kl)
    · exact hq.2.2.2.1 (by rw [h]; exact a.kb hp)
    · exact hq.2.2.2.2 (by rw [h]; exact a.km ht)⟩
  have c' : MA w1 (fun j => F' j ∧ ¬ G j) g { m with last := m.last + 1, ps := ps } := { at_ := a, ok := c.ok, foot := foot, lt := fun k hk => c.lt k hk.1 }
  exact c'.off ho (fun k hk => hk.2)
theorem bs_inj {a b : List Int} (h : bs a = bs b) : a = b := by
  have h2 : (bs a).toList = (bs b).toList := by rw [h]
  simp only [bs] at h2
  exact List.map_inj_right (fun x y e => by injection e) |>.1 h2
theorem Paged.below {w : World} {F : Nat → Prop} {g : Nat} {m : M} {ws : List (Int × List Int)} {left : Lit → Bool} {w1 w2 : World} (h : Paged w F g m ws left w1) (hb : Below w1.heap.size w1 w2) : Paged w F g m ws left w2 :=
  h.off (G := fun _ => False) (Off.of_below hb) (fun k q => q.elim)
theorem Paged.iter {w : World} {F : Nat → Prop} {g : Nat} {m : M} {ws : List (Int × List Int)} {left left' : Lit → Bool} {w1 w2 : World} {mb it n cnt : Nat} {D : DataW (List Int)} (h : Paged w F g m ws left w1) (r : w1.ranges Try.prog 33 wrR mb it n D left' cnt) (ho : Off (· = it) w1 w2) (hi : w.heap.size ≤ it) : Paged w F g m ws left w2 := by
  refine h.off ho (fun k q => ?_)
  obtain ⟨es, cl, since, seen, c0, e1, e2, e3, e4, e5, e6⟩ := r
  subst q
  have no : ∀ t, ¬ isCells w1 k t := fun t ⟨cur, hc⟩ => by rw [e5] at hc; cases hc
  exact ⟨hi, no _, no _, no _, fun ⟨es', cl', hc⟩ => by rw [e5] at hc; cases hc⟩
theorem Paged.row {w : World} {F : Nat → Prop} {g : Nat} {m : M} {ws : List (Int × List Int)} {left : Lit → Bool} {w1 w2 : World} {k : Nat} {t : TypeId} (h : Paged w F g m ws left w1) (r : isCells w1 k t) (ht : t ≠ 58 ∧ t ≠ 59 ∧ t ≠ 44) (ho : Off (· = k) w1 w2) (hi : w.heap.size ≤ k) : Paged w F g m ws left w2 := by
  refine h.off ho (fun j q => ?_)
  subst q
  exact ⟨hi, fun q => ne_types r q ht.1 rfl, fun q => ne_types r q ht.2.1 rfl, fun q => ne_types r q ht.2.2 rfl, fun q => ne_map r q rfl⟩
theorem Paged.start {w w1 w2 : World} {F : Nat → Prop} {g : Nat} {m : M} (c : MA w F g m) (hb : Below w.heap.size w w1) (hl : m.last < m.max) {ws : List (Int × List Int)} (hw : WsOk m.ps.length ws) (he : w2 = w1.setCell ⟨g, 2, none⟩ (.int .u32 (m.last + 1))) : Paged w F g m ws (fun k => Maps.has (setD ws) k) w2 := by
  have c1 := c.below hb
  subst he
  have O1 : Off (· = g) w1 (w1.setCell ⟨g, 2, none⟩ (.int .u32 (m.last + 1))) := Off.of_setCell _ _ _ rfl
  have R1 : Row (w1.setCell ⟨g, 2, none⟩ (.int .u32 (m.last + 1))) g (M.cells { m with last := m.last + 1, begun := m.begun, closed := m.closed }) 58 := row_set c1.at_.row 2 _
  have ok := more_ok c.ok hl (by simpa [M.abs] using hw) (fun k => Maps.has (setD ws) k)
  rw [moreL_start] at ok
  have C1 := c1.turn (m.last + 1) m.begun m.closed O1 R1 ok
  refine ⟨(Off.of_below hb).trans O1 (fun j e => Or.inl (by cases e; exact c.foot _ (Or.inl rfl))), F, m.ps, C1, (moreL_start _ _ _).symm, fun k _ h => h⟩
theorem paged_step {w w1 w2 : World} {F F' : Nat → Prop} {g : Nat} {m : M} {ps : List Pg} {ws : List (Int × List Int)} {left : Lit → Bool} {k : Nat} {p : Pg} {b : List Int} {gb cap : Nat} (o : Off F w w1) (c : MA w1 F' g { m with last := m.last + 1, ps := ps })
    (e : ps.map Pg.vs = moreL (m.ps.map Pg.vs) ws (m.last + 1) left) (hF : ∀ k, k < w.heap.size → F' k → F k) (ok : m.abs.Ok) (hl : m.last < m.max) (hw : WsOk m.ps.length ws) (hp : ps[k]? = some p) (hm : ((k : Int), b) ∈ ws) (hlk : left (.int .u16 (k : Int)) = true)
    (own2 : w2.ownsRow 0 44 65 (.slice (some ⟨gb, 0, none⟩) (p.vs.length + 1) cap) (p.vs.length + 1) (flatV p.vs ++ Ver.cells ⟨m.last + 1, b⟩)) (gr : w1.grownBy w2 (some p.b)) (hat : p.b = gb ∨ gb = w1.heap.size) :
    Paged w F g m ws (fun z => left z && !z.sameKey (.int .u16 (k : Int))) (w2.setCell ⟨m.pb, k, none⟩ (.slice (some ⟨gb, 0, none⟩) (p.vs.length + 1) cap)) ∧ Off (fun j => j = m.pb ∨ j = p.b) w1 (w2.setCell ⟨m.pb, k, none⟩ (.slice (some ⟨gb, 0, none⟩) (p.vs.length + 1) cap)) := by
  have hv : (m.ps.map Pg.vs)[k]? = some p.vs := by
    have h1 : (ps.map Pg.vs)[k]? = some p.vs := by rw [List.getElem?_map, hp]; rfl
    rw [e, moreL_at hlk] at h1
    exact h1
  have es : (ps.set k ⟨gb, cap, p.vs ++ [⟨m.last + 1, b⟩]⟩).map Pg.vs = moreL (m.ps.map Pg.vs) ws (m.last + 1) (fun z => left z && !z.sameKey (.int .u16 (k : Int))) := by
    rw [moreL_step hw.rising hm hlk hv, List.map_set, e]
  have ok2 := more_ok ok hl (by simpa [M.abs] using hw) (fun z => left z && !z.sameKey (.int .u16 (k : Int)))
  have okN : (M.abs { m with last := m.last + 1, ps := ps.set k ⟨gb, cap, p.vs ++ [⟨m.last + 1, b⟩]⟩ }).Ok := by
    simp only [M.abs] at ok2 ⊢
    rw [es]
    exact ok2
  obtain ⟨C, O⟩ := MA.paged c hp ⟨m.last + 1, b⟩ own2 gr hat okN
  have hpm := List.mem_of_getElem? hp
  have fpb : F' m.pb := c.foot _ (Or.inr (Or.inl rfl))
  have fb : F' p.b := c.foot _ (Or.inr (Or.inr (Or.inr (Or.inl ⟨p, hpm, rfl⟩))))
  have fz : ∀ j, F' j → F j ∨ w.heap.size ≤ j := fun j h => by
    rcases Nat.lt_or_ge j w.heap.size with q | q
    · exact Or.inl (hF j q h)
    · exact Or.inr q
  refine ⟨⟨o.trans O (fun j q => ?_), _, _, C, es, fun j hj q => ?_⟩, O⟩
  · rcases q with q | q
    · rw [q]; exact fz _ fpb
    · rw [q]; exact fz _ fb
  · rcases q with q | q
    · exact hF j hj q
    · rcases hat with h | h
      · rw [q, ← h] at hj ⊢
        exact hF _ hj fb
      · have := o.size
        omega
theorem Paged.done {w wr : World} {F : Nat → Prop} {g : Nat} {m : M} {ws : List (Int × List Int)} {left : Lit → Bool} (h : Paged w F g m ws left wr) (hl : ∀ k, left k = false) (start : Int) (hn : ws ≠ []) (hlm : ¬ m.last = m.max) (hcl : ¬ clash m.abs start ws = true) : Went w F g (commitS m.abs start ws) wr := by
  obtain ⟨o, F', ps, c, e, hF⟩ := h
  refine ⟨o, F', ⟨_, ?_, c⟩, hF⟩
  have : commitS m.abs start ws = { m.abs with last := m.abs.last + 1, pages := more m.abs.pages ws (m.abs.last + 1) } := by
    unfold commitS
    rw [if_neg hn, if_neg (by exact hlm), if_neg hcl]
  rw [this, ← moreL_end m.abs.pages ws (m.abs.last + 1) left hl]
  simp only [M.abs]
  rw [e]
end Go.Proofs.Ytpncmbkklkfmnaa
