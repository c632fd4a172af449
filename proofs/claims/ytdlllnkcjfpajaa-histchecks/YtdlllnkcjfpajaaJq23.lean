/-
  Plain facts: what the document says a history shows is what is shown of those that are done.
-/
import Derived.Test.YtdlllnkcjfpajaaJq21
import Derived.Test.YtdlllnkcjfpajaaJq22
namespace Go.Proofs.Ytdlllnkcjfpajaa
open Relation
set_option linter.unusedVariables false
set_option linter.unusedSimpArgs false
set_option maxRecDepth 20000
structure Emb (hs ps : List Hm) (s t : Nat → Nat) : Prop where
  fw : ∀ (i : Nat) h, hs[i]? = some h → ps[s i]? = some h ∧ h.p.dn = true
  bw : ∀ (j : Nat) h, ps[j]? = some h → h.p.dn = true → hs[t j]? = some h ∧ s (t j) = j
  ts : ∀ i, i < hs.length → t (s i) = i
theorem Emb.mk' : ∀ ps : List Hm, ∃ s t, Emb (ps.filter fun h => h.p.dn) ps s t
  | [] => ⟨id, id, ⟨fun i h q => by simp at q, fun i h q => by simp at q, fun i q => by simp at q⟩⟩
  | a :: r => by
    obtain ⟨s, t, E⟩ := Emb.mk' r
    by_cases hd : a.p.dn = true
    · have e : (a :: r).filter (fun h => h.p.dn) = a :: r.filter (fun h => h.p.dn) := by rw [List.filter_cons_of_pos (by simpa using hd)]
      rw [e]
      refine ⟨fun i => if i = 0 then 0 else s (i - 1) + 1, fun j => if j = 0 then 0 else t (j - 1) + 1, ⟨fun i h q => ?_, fun j h q hq => ?_, fun i q => ?_⟩⟩
      · cases i with
        | zero => simp at q; subst q; exact ⟨by simp, hd⟩
        | succ i =>
          have := E.fw i h (by simpa using q)
          exact ⟨by simpa using this.1, this.2⟩
      · cases j with
        | zero => simp at q; subst q; exact ⟨by simp, by simp⟩
        | succ j =>
          have := E.bw j h (by simpa using q) hq
          exact ⟨by simpa using this.1, by simpa using this.2⟩
      · cases i with
        | zero => simp
        | succ i => simpa using E.ts i (by simpa using q)
    · have e : (a :: r).filter (fun h => h.p.dn) = r.filter (fun h => h.p.dn) := by rw [List.filter_cons_of_neg (by simpa using hd)]
      rw [e]
      refine ⟨fun i => s i + 1, fun j => t (j - 1), ⟨fun i h q => ?_, fun j h q hq => ?_, fun i q => ?_⟩⟩
      · have := E.fw i h q
        exact ⟨by simpa using this.1, this.2⟩
      · cases j with
        | zero => simp at q; subst q; exact absurd hq hd
        | succ j =>
          have := E.bw j h (by simpa using q) hq
          exact ⟨by simpa using this.1, by simpa using this.2⟩
      · simpa using E.ts i q
theorem tg_map {α β : Type} {r : α → α → Prop} {r' : β → β → Prop} (f : α → β) (hf : ∀ a b, r a b → r' (f a) (f b)) {a b : α} (h : TransGen r a b) : TransGen r' (f a) (f b) := by
  induction h with
  | single q => exact .single (hf _ _ q)
  | tail _ q ih => exact .tail ih (hf _ _ q)
section
variable {hs ps : List Hm} {s t : Nat → Nat} (E : Emb hs ps s t)
include E
theorem Emb.inj {i j : Nat} (hi : i < hs.length) (hj : j < hs.length) (e : s i = s j) : i = j := by rw [← E.ts i hi, ← E.ts j hj, e]
theorem Emb.wrf {i : Nat} {v : Int × Int} (h : WrI hs i v) : ∃ x, ps[s i]? = some x ∧ WroR x v.1 ∧ x.p.co = v.2 := by
  obtain ⟨x, h1, h2, h3⟩ := h
  obtain ⟨q1, q2⟩ := E.fw i x h1
  exact ⟨x, q1, ⟨q2, h2⟩, h3.symm⟩
theorem Emb.wrb {j : Nat} {x : Hm} {v : Int × Int} (h : ps[j]? = some x) (hw : WroR x v.1) (hc : x.p.co = v.2) : WrI hs (t j) v :=
  ⟨x, (E.bw j x h hw.1).1, hw.2, hc.symm⟩
theorem Emb.com {v : Int × Int} : ComR ps v ↔ ∃ j, WrI hs j v := by
  constructor
  · rintro ⟨x, hx, hw, hc⟩
    obtain ⟨j, hj, rfl⟩ := List.getElem_of_mem hx
    exact ⟨t j, E.wrb (List.getElem?_eq_getElem hj) hw hc⟩
  · rintro ⟨j, hj⟩
    obtain ⟨x, h1, h2, h3⟩ := E.wrf hj
    exact ⟨x, List.mem_of_getElem? h1, h2, h3⟩
theorem Emb.fol1 {v : Int × Int} {k : Nat} (h : NxI hs v k) : FolR ps v.1 v.2 (s k) := by
  obtain ⟨t0, h1, h2, h3⟩ := h
  obtain ⟨x, q1, q2, q3⟩ := E.wrf h1
  refine ⟨x, q1, q2, by rw [q3]; exact h2, fun y hy hw ⟨c1, c2⟩ => ?_⟩
  obtain ⟨j, hj, rfl⟩ := List.getElem_of_mem hy
  have := h3 _ _ (E.wrb (v := (v.1, ps[j].p.co)) (List.getElem?_eq_getElem hj) hw rfl) c1
  rw [q3] at c2
  simp at c2
  omega
theorem Emb.fol2 {v : Int × Int} {b : Nat} (h : FolR ps v.1 v.2 b) : NxI hs v (t b) ∧ s (t b) = b := by
  obtain ⟨x, h1, h2, h3, h4⟩ := h
  refine ⟨⟨x.p.co, E.wrb h1 h2 rfl, h3, fun k' t' hk' ht => ?_⟩, (E.bw b x h1 h2.1).2⟩
  obtain ⟨y, q1, q2, q3⟩ := E.wrf hk'
  have := h4 y (List.mem_of_getElem? q1) q2
  simp at q3
  omega
theorem Emb.dep1 {i j : Nat} (h : DepI hs ((i : Int), (j : Int))) : DepR ps (s i) (s j) := by
  rcases h with ⟨v, a, b, h1, h2, h3, e⟩ | ⟨a, x, v, h1, h2, ⟨b, h3, h4, e⟩⟩
  · have e1 := congrArg Prod.fst e; have e2 := congrArg Prod.snd e; simp at e1 e2
    obtain rfl : i = a := by omega
    obtain rfl : j = b := by omega
    obtain ⟨x, q1, q2, q3⟩ := E.wrf h1
    have hf := E.fol1 h2
    obtain ⟨y, q4, q5, _⟩ := hf
    refine ⟨fun q => h3 (E.inj h1.lt h2.lt q), x, y, q1, q4, q2.1, q5.1, Or.inr ⟨v.1, q2.2, ?_⟩⟩
    rw [q3]; exact E.fol1 h2
  · have e1 := congrArg Prod.fst e; have e2 := congrArg Prod.snd e; simp at e1 e2
    obtain rfl : i = b := by omega
    obtain rfl : j = a := by omega
    obtain ⟨y, q1, q2, q3⟩ := E.wrf h3
    obtain ⟨q4, q5⟩ := E.fw j x h1
    exact ⟨fun q => h4 (E.inj h3.lt (List.getElem?_eq_some_iff.1 h1).1 q), y, x, q1, q4, q2.1, q5, Or.inl ⟨v, h2, q2, q3⟩⟩
theorem Emb.dep2 {a b : Nat} (h : DepR ps a b) : DepI hs ((t a : Int), (t b : Int)) ∧ s (t a) = a ∧ s (t b) = b := by
  obtain ⟨hne, x, y, h1, h2, h3, h4, h5⟩ := h
  obtain ⟨q1, q2⟩ := E.bw a x h1 h3
  obtain ⟨q3, q4⟩ := E.bw b y h2 h4
  have hn : t a ≠ t b := fun q => hne (by rw [← q2, ← q4, q])
  refine ⟨?_, q2, q4⟩
  rcases h5 with ⟨v, hv, hw, hc⟩ | ⟨p, hp, hf⟩
  · exact Or.inr ⟨t b, y, v, q3, hv, ⟨t a, E.wrb h1 hw hc, hn, rfl⟩⟩
  · exact Or.inl ⟨(p, x.p.co), t a, t b, E.wrb h1 ⟨h3, hp⟩ rfl, (E.fol2 (v := (p, x.p.co)) hf).1, hn, rfl⟩
theorem Emb.edge1 {i j : Nat} (h : Edge hs i j) : i = j ∨ StR ps true (s i) (s j) := by
  rcases h with h | ⟨x, y, h1, h2, h3⟩
  · exact Or.inr (Or.inl (E.dep1 h))
  · by_cases e : i = j
    · exact Or.inl e
    · obtain ⟨q1, q2⟩ := E.fw i x h1
      obtain ⟨q3, q4⟩ := E.fw j y h2
      exact Or.inr (Or.inr ⟨rfl, fun q => e (E.inj (List.getElem?_eq_some_iff.1 h1).1 (List.getElem?_eq_some_iff.1 h2).1 q), x, y, q1, q3, q2, q4, h3⟩)
theorem Emb.edge2 {a b : Nat} (h : StR ps true a b) : Edge hs (t a) (t b) := by
  rcases h with h | ⟨_, _, x, y, h1, h2, h3, h4, h5⟩
  · exact Or.inl (E.dep2 h).1
  · exact Or.inr ⟨x, y, (E.bw a x h1 h3).1, (E.bw b y h2 h4).1, h5⟩
theorem Emb.come1 {i j : Nat} (h : Come (Edge hs) i j) : i = j ∨ TransGen (StR ps true) (s i) (s j) := by
  induction h with
  | here => exact Or.inl rfl
  | step _ r ih =>
    rcases E.edge1 r with rfl | r
    · exact ih
    · rcases ih with rfl | ih
      · exact Or.inr (.single r)
      · exact Or.inr (.tail ih r)
theorem Emb.come2 {a b : Nat} (h : TransGen (StR ps true) a b) : Come (Edge hs) (t a) (t b) := by
  induction h with
  | single r => exact .step .here (E.edge2 r)
  | tail _ r ih => exact .step ih (E.edge2 r)
theorem Emb.ab : AbI hs ↔ ∃ i, i < ps.length ∧ AboAt ps i := by
  constructor
  · rintro ⟨i, x, v, h1, h2, h3, h4⟩
    obtain ⟨q1, q2⟩ := E.fw i x h1
    exact ⟨s i, (List.getElem?_eq_some_iff.1 q1).1, x, q1, q2, v, h2, h3, fun q => by obtain ⟨j, hj⟩ := E.com.1 q; exact h4 j hj⟩
  · rintro ⟨i, _, x, h1, h2, v, h3, h4, h5⟩
    exact ⟨t i, x, v, (E.bw i x h1 h2).1, h3, h4, fun j q => h5 (E.com.2 ⟨j, q⟩)⟩
theorem Emb.cir : CirI hs ↔ ∃ i, i < ps.length ∧ CirAt ps i := by
  constructor
  · rintro ⟨x, hx⟩
    have h2 : TransGen (StR ps false) (s x) (s x) := tg_map s (fun a b q => Or.inl (E.dep1 q)) hx
    refine ⟨s x, ?_, h2⟩
    cases h2 with
    | single r => exact r.lt.2
    | tail _ r => exact r.lt.2
  · rintro ⟨i, _, hi⟩
    refine ⟨t i, tg_map t (fun a b q => ?_) hi⟩
    rcases q with q | ⟨q, _⟩
    · exact (E.dep2 q).1
    · cases q
theorem Emb.int : InI hs ↔ ∃ i, i < ps.length ∧ ∃ k, k < ps.length ∧ IntAt ps i k := by
  constructor
  · rintro ⟨_, h1, i, j, x, y, rfl, h2, h3, h4⟩
    have hd := E.dep1 h1
    obtain ⟨q1, q2⟩ := E.fw i x h2
    obtain ⟨q3, q4⟩ := E.fw j y h3
    refine ⟨s i, (List.getElem?_eq_some_iff.1 q1).1, s j, (List.getElem?_eq_some_iff.1 q3).1, hd, fun ⟨_, x', y', r1, r2, _, _, r3⟩ => ?_⟩
    rw [q1] at r1; injection r1 with r1; subst r1
    rw [q3] at r2; injection r2 with r2; subst r2
    omega
  · rintro ⟨i, _, k, _, hd, ha⟩
    obtain ⟨q1, q2, q3⟩ := E.dep2 hd
    obtain ⟨hne, x, y, r1, r2, r3, r4, _⟩ := hd
    refine ⟨_, q1, t i, t k, x, y, rfl, (E.bw i x r1 r3).1, (E.bw k y r2 r4).1, ?_⟩
    refine Int.not_le.1 fun q => ha ⟨hne, x, y, r1, r2, r3, r4, q⟩
theorem Emb.mis : MisI hs ↔ ∃ i, i < ps.length ∧ MisAt ps i := by
  constructor
  · rintro ⟨i, j, ⟨a, x, v, q1, q2, q3, b, q4, q5, e⟩, h2⟩
    have e1 := congrArg Prod.fst e; have e2 := congrArg Prod.snd e; simp at e1 e2
    obtain rfl : i = b := by omega
    obtain rfl : j = a := by omega
    obtain ⟨r1, r2⟩ := E.fw j x q1
    have hf := E.fol1 q4
    obtain ⟨y, r3, _⟩ := hf
    refine ⟨s j, (List.getElem?_eq_some_iff.1 r1).1, x, r1, r2, v, q2, s i, (List.getElem?_eq_some_iff.1 r3).1, fun q => q5 (E.inj q4.lt (List.getElem?_eq_some_iff.1 q1).1 q), E.fol1 q4, ?_, ?_⟩
    · rcases E.come1 h2 with q | q
      · exact absurd q q5
      · exact q
    · rcases q3 with q3 | q3
      · exact Or.inr (E.com.2 q3)
      · exact Or.inl q3
  · rintro ⟨i, _, x, h1, h2, v, h3, k, _, h4, h5, h6, h7⟩
    obtain ⟨r1, r2⟩ := E.fol2 h5
    obtain ⟨r3, r4⟩ := E.bw i x h1 h2
    refine ⟨t k, t i, ⟨t i, x, v, r3, h3, ?_, t k, r1, fun q => h4 (by rw [← r2, ← r4, q]), rfl⟩, E.come2 h6⟩
    rcases h7 with h7 | h7
    · exact Or.inr h7
    · exact Or.inl (E.com.1 h7)
theorem Emb.uni (h : HisR ps) : Uni hs := fun i j v hi hj => by
  obtain ⟨x, q1, q2, q3⟩ := E.wrf hi
  obtain ⟨y, r1, r2, r3⟩ := E.wrf hj
  have cx : x.p.com = true := by simp [Pt.com, q2.1, List.length_pos_of_mem q2.2]
  have cy : y.p.com = true := by simp [Pt.com, r2.1, List.length_pos_of_mem r2.2]
  refine Classical.byContradiction fun hne => ?_
  have hs' : s i ≠ s j := fun q => hne (E.inj hi.lt hj.lt q)
  exact h.2 (s i) (List.getElem?_eq_some_iff.1 q1).1 (s j) (List.getElem?_eq_some_iff.1 r1).1 hs' x y q1 r1 cx cy (by rw [q3, r3])
end
theorem ShownD.toH {ps : List Hm} {o : Int} (his : HisR ps) (h : ShownD ps o) : ShownH ps o := by
  obtain ⟨a, c, i, m, e, h1, h2, h3, h4⟩ := h
  obtain ⟨s, t, E⟩ := Emb.mk' ps
  exact ⟨_, a, c, i, m, List.Perm.refl _, E.uni his, e, h1.trans E.ab.symm, h2.trans E.cir.symm, h3.trans E.int.symm, h4.trans E.mis.symm⟩
theorem hisR_iff (ps : List Hm) : HisR ps ↔ isHF (ps.map Hm.p) [] = true := by
  rw [isHF_iff, List.pairwise_map, List.pairwise_iff_getElem]
  constructor
  · rintro ⟨h1, h2⟩
    refine ⟨fun p hp hc => ?_, fun i j hi hj hij ⟨c1, c2, e⟩ => ?_⟩
    · obtain ⟨x, hx, rfl⟩ := List.mem_map.1 hp
      exact ⟨(fun q => by cases q), h1 x hx hc⟩
    · exact h2 i hi j hj (by omega) _ _ (List.getElem?_eq_getElem hi) (List.getElem?_eq_getElem hj) c1 c2 e
  · rintro ⟨h1, h2⟩
    refine ⟨fun x hx hc => (h1 x.p (List.mem_map_of_mem hx) hc).2, fun i hi j hj hne x y hx hy c1 c2 e => ?_⟩
    obtain ⟨_, rfl⟩ := List.getElem?_eq_some_iff.1 hx
    obtain ⟨_, rfl⟩ := List.getElem?_eq_some_iff.1 hy
    rcases Nat.lt_or_gt_of_ne hne with q | q
    · exact h2 i j hi hj q ⟨c1, c2, e⟩
    · exact h2 j i hj hi q ⟨c2, c1, e.symm⟩
end Go.Proofs.Ytdlllnkcjfpajaa
