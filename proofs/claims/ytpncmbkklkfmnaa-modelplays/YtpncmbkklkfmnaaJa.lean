/-
  Plain facts: a call more, and the machine is still what the calls tell. Plain facts: writes and ends, and the machine is still what the calls tell. Plain facts: a commit, and any call: the machine is still what the calls tell. Plain facts: a page as it was at a timestamp, told of all calls. Plain facts: what the document's machine counts.
-/
import Derived.Test.YtpncmbkklkfmnaaMrl
namespace Go.Proofs.Ytpncmbkklkfmnaa
open Go.ChangeShapes Go.WideShapes Go.ChangeAt Go.RowKit
open Go.Deep Go.Maps
set_option linter.unusedVariables false
set_option linter.unusedSimpArgs false
set_option maxRecDepth 20000


def isE (n : Int) (d : Dn) : Prop := (d.c.kind = 3 ∨ d.c.kind = 4) ∧ d.c.txn = n ∧ d.r.err ≠ 9
def isA (n : Int) (d : Dn) : Prop := d.c.kind = 0 ∧ d.r.err = 0 ∧ d.r.txn = n ∧ 0 < n
theorem bgS_no {n : Int} {d : Dn} (p : Int × Bool) (ha : ¬ isA n d) (he : ¬ isE n d) : bgS n p d = p := by
  unfold bgS isA isE at *
  simp only [if_neg ha, if_neg he]
theorem bgS_begin {n : Int} {d : Dn} (p : Int × Bool) (ha : isA n d) (he : ¬ isE n d) : bgS n p d = (d.r.ts, true) := by
  unfold bgS isA isE at *
  simp only [if_pos ha, if_neg he]
theorem bgS_end {n : Int} {d : Dn} (p : Int × Bool) (ha : ¬ isA n d) (he : isE n d) : bgS n p d = (p.1, false) := by
  unfold bgS isA isE at *
  simp only [if_neg ha, if_pos he]
theorem Rel.still {s s' : St} {ds : List Dn} {d : Dn} (h : Rel s ds) (q : Still s s' ds d) (hfit : d.c.kind = 2 → d.r.err = 0 → fitsB d.c.off d.c.str = true ∧ d.c.page < s.pages.length) (hcl : s'.closed = true ↔ s.closed = true ∨ (d.c.kind = 7 ∧ d.r.err = 0)) (hbn : isBg d = true → 1 ≤ d.r.txn ∧ d.r.txn ≤ s'.begun) : Rel s' (ds ++ [d]) := by
  have hb := q.begun
  refine ⟨?_, ?_, ?_, ?_, ?_, ?_, fun k hk => q.vs h k hk⟩
  · intro e he h2 h0
    rcases List.mem_append.1 he with m | m
    · exact h.fit e m h2 h0
    · simp at m; subst m; exact (hfit h2 h0).1
  · rw [hcl, h.cl]
    constructor
    · rintro (⟨e, he, q1⟩ | q1)
      · exact ⟨e, List.mem_append_left _ he, q1⟩
      · exact ⟨d, List.mem_append_right _ (by simp), q1⟩
    · rintro ⟨e, he, q1⟩
      rcases List.mem_append.1 he with m | m
      · exact Or.inl ⟨e, m, q1⟩
      · simp at m; subst m; exact Or.inr q1
  · rw [lsV_snoc, q.last, h.ls]
    split
    · rename_i q1
      have := (q.noL q1.1 q1.2).2.2
      omega
    · rfl
  · intro e he hbg
    rcases List.mem_append.1 he with m | m
    · have := h.bn e m hbg; omega
    · simp at m; subst m; exact hbn hbg
  · intro e he h3 h0
    rcases List.mem_append.1 he with m | m
    · have := h.cm e m h3 h0
      rw [bgV_snoc _ _ _ (q.noB _ this.1), q.last]
      exact ⟨by omega, this.2⟩
    · simp at m; subst m
      have := q.noL h3 h0
      rw [bgV_snoc _ _ _ (by simp [isB, h3]), q.last]
      exact this
  · intro e he h2 h0
    rw [q.pages]
    rcases List.mem_append.1 he with m | m
    · exact h.pw e m h2 h0
    · simp at m; subst m; exact (hfit h2 h0).2
/-- A call that tells nothing. -/
structure Quiet (d : Dn) : Prop where
  bg : isBg d = false
  en : ∀ n p, bgS n p d = p
  wr : ∀ n k, isW n k d = false
  cm : ¬ (d.c.kind = 3 ∧ d.r.err = 0)
  cl : ¬ (d.c.kind = 7 ∧ d.r.err = 0)
theorem isB_bg {d : Dn} (h : isBg d = false) (n : Int) : isB d n = false := by
  unfold isB; unfold isBg at h; rw [h]; rfl
theorem Quiet.still {s : St} {ds : List Dn} {d : Dn} (q : Quiet d) : Still s s ds d := ⟨rfl, rfl, Int.le_refl _, fun z => q.cm ⟨z.1, z.2.1⟩, fun h3 h0 => absurd ⟨h3, h0⟩ q.cm, fun n _ => isB_bg q.bg n, fun e _ _ _ k => q.wr _ k⟩
theorem Quiet.rel {s : St} {ds : List Dn} {d : Dn} (q : Quiet d) (h : Rel s ds) : Rel s (ds ++ [d]) :=
  h.still q.still (fun h2 h0 => by have := q.wr d.c.txn d.c.page; simp [isW, h2, h0] at this) ⟨fun z => Or.inl z, fun z => z.elim (fun y => y) fun y => absurd y q.cl⟩ (fun z => by rw [q.bg] at z; cases z)
theorem wrS_no {d : Dn} {n k : Int} (h : isW n k d = false) (p : List Int × Bool) : wrS n k p d = p := by unfold wrS; rw [h]; rfl
theorem Quiet.relO {s : St} {ds : List Dn} {d : Dn} (q : Quiet d) (h : RelO s ds) : RelO s (ds ++ [d]) := by
  have eb : begs (ds ++ [d]) = begs ds := by rw [begs_snoc, if_neg (by rw [q.bg]; simp)]
  refine ⟨by rw [eb]; exact h.cnt, by rw [eb]; exact h.keys, fun n => by rw [bgR_snoc, q.en]; exact h.bg n, fun n t ht => ?_, ?_, fun n t ht k h0 h1 => ?_, ?_⟩
  · rw [bgR_snoc, q.en, bgV_snoc _ _ _ (isB_bg q.bg n)]; exact h.st n t ht
  · intro e he h3 h0
    rcases List.mem_append.1 he with m | m
    · exact h.en e m h3 h0
    · simp at m; subst m; exact absurd ⟨h3, h0⟩ q.cm
  · rw [wrR_snoc, wrR_snoc, wrS_no (q.wr n k), wrS_no (q.wr n k)]
    exact h.ws n t ht k h0 h1
  · intro e he h2 h0
    rcases List.mem_append.1 he with m | m
    · exact h.wn e m h2 h0
    · simp at m; subst m
      have := q.wr e.c.txn e.c.page
      simp [isW, h2, h0] at this
/-- Both, as long as the machine is open. -/
structure Both (s : St) (ds : List Dn) : Prop where
  rel : Rel s ds
  opn : s.closed = false → RelO s ds
theorem Quiet.both {s : St} {ds : List Dn} {d : Dn} (q : Quiet d) (h : Both s ds) : Both s (ds ++ [d]) := ⟨q.rel h.rel, fun z => q.relO (h.opn z)⟩
theorem quiet_fail {c : Cal} {e : Int} (he : e ≠ 0) (h9 : e = 9 ∨ (c.kind ≠ 3 ∧ c.kind ≠ 4)) : Quiet ⟨c, Rep.fail e⟩ := by
  refine ⟨?_, fun n p => ?_, fun n k => ?_, fun z => he z.2, fun z => he z.2⟩
  · simp [isBg, Rep.fail, he]
  · refine bgS_no p (fun z => he z.2.1) fun z => ?_
    rcases h9 with h | h
    · exact z.2.2 h
    · rcases z.1 with k | k
      · exact h.1 k
      · exact h.2 k
  · simp [isW, Rep.fail, he]
theorem quiet_kind {c : Cal} {r : Rep} (h : c.kind = 1 ∨ c.kind = 5 ∨ c.kind = 6) : Quiet ⟨c, r⟩ := by
  have h0 : ¬ c.kind = 0 := by omega
  have h2 : ¬ c.kind = 2 := by omega
  have h3 : ¬ c.kind = 3 := by omega
  have h4 : ¬ c.kind = 4 := by omega
  have h7 : ¬ c.kind = 7 := by omega
  refine ⟨by simp [isBg, h0], fun n p => ?_, fun n k => by simp [isW, h2], fun z => h3 z.1, fun z => h7 z.1⟩
  exact bgS_no p (fun z => h0 z.1) fun z => z.1.elim h3 h4
/-- A call of a closed machine. -/
theorem Both.closed {s : St} {ds : List Dn} (h : Both s ds) (hc : s.closed = true) (c : Cal) : Both s (ds ++ [⟨c, Rep.fail 12⟩]) := by
  refine ⟨h.rel.still (s' := s) ⟨rfl, rfl, Int.le_refl _, fun z => ?_, fun _ h0 => ?_, fun n _ => ?_, fun e _ _ _ k => ?_⟩ (fun _ h0 => ?_) ⟨fun z => Or.inl z, fun z => z.elim (fun y => y) fun y => absurd y.2 (by show ¬ (12 : Int) = 0; decide)⟩ (fun z => ?_), fun z => by rw [hc] at z; cases z⟩
  · exact absurd z.2.1 (by show ¬ (12 : Int) = 0; decide)
  · exact absurd h0 (by show ¬ (12 : Int) = 0; decide)
  · exact isB_bg (by simp [isBg, Rep.fail]) n
  · simp [isW, Rep.fail]
  · exact absurd h0 (by show ¬ (12 : Int) = 0; decide)
  · simp [isBg, Rep.fail] at z
/-- The machine is closed. -/
theorem Both.close {s : St} {ds : List Dn} (h : Both s ds) {c : Cal} (h7 : c.kind = 7) : Both { s with closed := true } (ds ++ [⟨c, Rep.zero⟩]) := by
  have h0 : ¬ c.kind = 0 := by omega
  have h2 : ¬ c.kind = 2 := by omega
  have h3 : ¬ c.kind = 3 := by omega
  refine ⟨h.rel.still (s' := { s with closed := true }) ⟨rfl, rfl, Int.le_refl _, fun z => h3 z.1, fun z => absurd z h3, fun n _ => isB_bg (by simp [isBg, h0]) n, fun e _ _ _ k => by simp [isW, h2]⟩ (fun z => absurd z h2) ⟨fun _ => Or.inr ⟨h7, rfl⟩, fun _ => rfl⟩ (fun z => by simp [isBg, h0] at z), fun z => by cases z⟩
/-- A transaction begins. -/
theorem Both.begin {s : St} {ds : List Dn} (h : Both s ds) (ok : s.Ok) (hc : s.closed = false) (hl : s.live.length < 8) {c : Cal} (h0 : c.kind = 0) : Both (beginS s) (ds ++ [⟨c, ⟨0, s.begun + 1, s.last, zs 64⟩⟩]) := by
  have O := h.opn hc
  have es : beginS s = { s with begun := s.begun + 1, live := s.live ++ [(s.begun + 1, s.last, [])] } := if_pos hl
  rw [es]
  have hpos := ok.pos
  have hB : isBg ⟨c, ⟨0, s.begun + 1, s.last, zs 64⟩⟩ = true := by simp [isBg, h0]
  have h2 : ¬ c.kind = 2 := by omega
  have h3 : ¬ c.kind = 3 := by omega
  have h4 : ¬ c.kind = 4 := by omega
  have hn : findL s.live (s.begun + 1) = none := findL_none ok (Or.inr (by omega))
  have hnoB : ∀ e ∈ ds, isB e (s.begun + 1) = false := fun e he => by
    cases hq : isB e (s.begun + 1) with
    | false => rfl
    | true =>
      simp only [isB, Bool.and_eq_true, decide_eq_true_eq] at hq
      have := h.rel.bn e he (by simp [isBg, hq.1.1, hq.1.2])
      omega
  have hIB : ∀ n, n ≠ s.begun + 1 → isB ⟨c, ⟨0, s.begun + 1, s.last, zs 64⟩⟩ n = false := fun n q => by simp [isB, Ne.symm q]
  have hwr : ∀ n k, isW n k ⟨c, ⟨0, s.begun + 1, s.last, zs 64⟩⟩ = false := fun n k => by simp [isW, h2]
  have hbs : ∀ n p, n ≠ s.begun + 1 → bgS n p ⟨c, ⟨0, s.begun + 1, s.last, zs 64⟩⟩ = p := fun n p q => by
    exact bgS_no p (fun z => q z.2.2.1.symm) fun z => z.1.elim h3 h4
  have hbn : ∀ p, bgS (s.begun + 1) p ⟨c, ⟨0, s.begun + 1, s.last, zs 64⟩⟩ = (s.last, true) := fun p => by
    exact bgS_begin p ⟨h0, rfl, rfl, by omega⟩ fun z => z.1.elim h3 h4
  have hfo : ∀ n, n ≠ s.begun + 1 → findL (s.live ++ [(s.begun + 1, s.last, [])]) n = findL s.live n := fun n q => by
    rw [findL_append]
    cases findL s.live n with
    | some t => rfl
    | none => simp [Ne.symm q]
  have hfn : findL (s.live ++ [(s.begun + 1, s.last, [])]) (s.begun + 1) = some (s.begun + 1, s.last, []) := by rw [findL_append, hn]; simp
  have hw0 : ∀ k b, wrR' ds (s.begun + 1) k b = (b, false) := fun k b => by
    unfold wrR'
    have gen : ∀ (l : List Dn), (∀ e ∈ l, e ∈ ds) → l.foldl (wrS (s.begun + 1) k) (b, false) = (b, false) := by
      intro l
      induction l with
      | nil => intro _; rfl
      | cons e r ih =>
        intro hm
        have : isW (s.begun + 1) k e = false := by
          cases hq : isW (s.begun + 1) k e with
          | false => rfl
          | true =>
            simp only [isW, Bool.and_eq_true, decide_eq_true_eq] at hq
            have := O.wn e (hm e (List.mem_cons_self ..)) hq.1.1.1 hq.2
            omega
        rw [List.foldl_cons, wrS_no this]
        exact ih fun x hx => hm x (List.mem_cons_of_mem _ hx)
    exact gen ds fun _ q => q
  refine ⟨h.rel.still ⟨rfl, rfl, by show s.begun ≤ s.begun + 1; omega, fun z => h3 z.1, fun z => absurd z h3, fun n hq => hIB n (by omega), fun e _ _ _ k => hwr _ k⟩ (fun z => absurd z h2) ⟨fun z => Or.inl z, fun z => z.elim (fun y => y) fun y => absurd y.1 (by show ¬ c.kind = 7; omega)⟩ (fun _ => ⟨by show (1 : Int) ≤ s.begun + 1; omega, Int.le_refl _⟩), fun _ => ⟨?_, ?_, fun n => ?_, fun n t ht => ?_, ?_, fun n t ht k k0 k1 => ?_, ?_⟩⟩
  · rw [begs_snoc, if_pos hB, List.length_append]
    have := O.cnt
    simp
    omega
  · rw [begs_snoc, if_pos hB, List.map_append, List.filter_append, O.keys]
    have e1 : (begs ds).filter (fun n => (findL (s.live ++ [(s.begun + 1, s.last, [])]) n).isSome) = (begs ds).filter (fun n => (findL s.live n).isSome) := List.filter_congr fun n hm => by
      obtain ⟨e, he, rfl⟩ := List.mem_map.1 hm
      have := h.rel.bn e (List.mem_filter.1 he).1 (List.mem_filter.1 he).2
      rw [hfo _ (by omega)]
    simp only
    rw [e1]
    simp [hfn]
  · rw [bgR_snoc]
    by_cases q : n = s.begun + 1
    · subst q
      rw [hbn, hfn]; rfl
    · rw [hbs n _ q, hfo n q]
      exact O.bg n
  · by_cases q : n = s.begun + 1
    · subst q
      rw [hfn] at ht
      cases ht
      rw [bgR_snoc, hbn, bgV_new _ _ _ hnoB (by simp [isB, h0])]
      exact ⟨rfl, rfl⟩
    · rw [hfo n q] at ht
      rw [bgR_snoc, hbs n _ q, bgV_snoc _ _ _ (hIB n q)]
      exact O.st n t ht
  · intro e he e3 e0
    rcases List.mem_append.1 he with m | m
    · have hle := h.rel.cm e m e3 e0
      rw [hfo _ (by omega)]
      exact O.en e m e3 e0
    · simp at m; subst m; exact absurd e3 h3
  · rw [wrR_snoc, wrR_snoc, wrS_no (hwr n k), wrS_no (hwr n k)]
    by_cases q : n = s.begun + 1
    · subst q
      rw [hfn] at ht
      cases ht
      rw [hw0]
      exact ⟨rfl, fun z => by simp [hasP] at z⟩
    · rw [hfo n q] at ht
      exact O.ws n t ht k k0 k1
  · intro e he e2 e0
    rcases List.mem_append.1 he with m | m
    · have := O.wn e m e2 e0
      show e.c.txn ≤ s.begun + 1
      omega
    · simp at m; subst m; exact absurd e2 h2
end Go.Proofs.Ytpncmbkklkfmnaa
namespace Go.Proofs.Ytpncmbkklkfmnaa
open Go.ChangeShapes Go.WideShapes Go.ChangeAt Go.RowKit
open Go.Deep Go.Maps
set_option linter.unusedVariables false
set_option linter.unusedSimpArgs false
set_option maxRecDepth 20000


theorem wrR_false {ds : List Dn} {n k : Int} {b : List Int} (h : (wrR' ds n k b).2 = false) : (wrR' ds n k b).1 = b := by
  unfold wrR' at h ⊢
  have gen : ∀ (l : List Dn) (p : List Int × Bool), (l.foldl (wrS n k) p).2 = false → (l.foldl (wrS n k) p).1 = p.1 ∧ p.2 = false := by
    intro l
    induction l with
    | nil => intro p hp; exact ⟨rfl, hp⟩
    | cons d r ih =>
      intro p hp
      rw [List.foldl_cons] at hp ⊢
      obtain ⟨h1, h2⟩ := ih _ hp
      unfold wrS at h1 h2 ⊢
      by_cases q : isW n k d = true
      · rw [if_pos q] at h2; cases h2
      · rw [if_neg q] at h1 h2 ⊢
        exact ⟨h1, h2⟩
  exact (gen ds (b, false) h).1
theorem setL_keys (l : List Live) (n : Int) (ws : List (Int × List Int)) : (setL l n ws).map (fun t => t.1) = l.map (fun t => t.1) := by
  unfold setL
  rw [List.map_map]
  refine List.map_congr_left fun t _ => ?_
  show (if t.1 = n then (t.1, t.2.1, ws) else t).1 = t.1
  split <;> rfl
theorem findL_set_some (l : List Live) (n m : Int) (ws : List (Int × List Int)) : (findL (setL l n ws) m).isSome = (findL l m).isSome := by rw [findL_set]; cases findL l m <;> rfl
theorem findL_key {l : List Live} {n : Int} {t : Live} (h : findL l n = some t) : t.1 = n := (findL_some h).2
theorem Both.write {s : St} {ds : List Dn} (h : Both s ds) (ok : s.Ok) (hc : s.closed = false) {c : Cal} (h2 : c.kind = 2) {t : Live} (ht : findL s.live c.txn = some t) (hp0 : 0 ≤ c.page) (hp : c.page < s.pages.length) (hf : fitsB c.off c.str = true) :
    Both { s with live := setL s.live c.txn (putP t.2.2 c.page (wrote (seenV t.2.2 t.2.1 (s.page c.page) c.page).body c.off c.str)) } (ds ++ [⟨c, Rep.zero⟩]) := by
  have O := h.opn hc
  have h0 : ¬ c.kind = 0 := by omega
  have h3 : ¬ c.kind = 3 := by omega
  have h4 : ¬ c.kind = 4 := by omega
  have hbg : isBg ⟨c, Rep.zero⟩ = false := by simp [isBg, h0]
  have hbs : ∀ n p, bgS n p ⟨c, Rep.zero⟩ = p := fun n p => bgS_no p (fun z => h0 z.1) fun z => z.1.elim h3 h4
  have hwn : ∀ n k, n ≠ c.txn → isW n k ⟨c, Rep.zero⟩ = false := fun n k q => by simp [isW, Ne.symm q]
  have hwk : ∀ n k, k ≠ c.page → isW n k ⟨c, Rep.zero⟩ = false := fun n k q => by simp [isW, Ne.symm q]
  have hwy : isW c.txn c.page ⟨c, Rep.zero⟩ = true := by simp [isW, h2, Rep.zero]
  have eb : begs (ds ++ [⟨c, Rep.zero⟩]) = begs ds := by rw [begs_snoc, if_neg (by rw [hbg]; simp)]
  have hr := (ok.tx t (findL_some ht).1).2.2.2.2.rising
  have hle := ok.tx t (findL_some ht).1
  rw [findL_key ht] at hle
  refine ⟨h.rel.still ⟨rfl, rfl, Int.le_refl _, fun z => h3 z.1, fun z => absurd z h3, fun n _ => isB_bg hbg n, fun e he e3 e0 k => hwn _ k fun q => ?_⟩ (fun _ _ => ⟨hf, hp⟩) ⟨fun z => Or.inl z, fun z => z.elim (fun y => y) fun y => absurd y.1 (by show ¬ c.kind = 7; omega)⟩ (fun z => by rw [hbg] at z; cases z), fun _ => ⟨by rw [eb]; exact O.cnt, ?_, fun n => ?_, fun n u hu => ?_, ?_, fun n u hu k k0 k1 => ?_, ?_⟩⟩
  · have := O.en e he e3 e0
    rw [q, ht] at this
    cases this
  · rw [eb, setL_keys, O.keys]
    exact List.filter_congr fun n _ => (findL_set_some _ _ _ _).symm
  · rw [bgR_snoc, hbs, findL_set_some]; exact O.bg n
  · rw [findL_set] at hu
    cases hq : findL s.live n with
    | none => rw [hq] at hu; cases hu
    | some y =>
      rw [hq] at hu
      have e1 : u.2.1 = y.2.1 := by
        simp only [Option.map_some, Option.some.injEq] at hu
        rw [← hu]
        split <;> rfl
      rw [bgR_snoc, hbs, bgV_snoc _ _ _ (isB_bg hbg n), e1]
      exact O.st n y hq
  · intro e he e3 e0
    rcases List.mem_append.1 he with m | m
    · rw [findL_set, O.en e m e3 e0]; rfl
    · simp at m; subst m; exact absurd e3 h3
  · rw [findL_set] at hu
    cases hq : findL s.live n with
    | none => rw [hq] at hu; cases hu
    | some y =>
      rw [hq] at hu
      simp only [Option.map_some, Option.some.injEq] at hu
      rw [wrR_snoc, wrR_snoc]
      by_cases q : n = c.txn
      · subst q
        rw [if_pos rfl] at hu
        rw [ht] at hq
        cases hq
        subst hu
        have W := O.ws c.txn t ht k k0 k1
        by_cases qk : (k : Int) = c.page
        · rw [qk] at W ⊢
          have e1 : ∀ b, wrS c.txn c.page (wrR' ds c.txn c.page b) ⟨c, Rep.zero⟩ = (wrote (wrR' ds c.txn c.page b).1 c.off c.str, true) := fun b => by unfold wrS; rw [if_pos hwy]
          rw [e1, e1]
          obtain ⟨p1, p2⟩ := put_same hr c.page (wrote (seenV t.2.2 t.2.1 (s.page c.page) c.page).body c.off c.str)
          refine ⟨p2.symm, fun _ => ?_⟩
          show atP (putP _ _ _) _ = _
          rw [p1]
          congr 1
          unfold seenV
          cases hh : hasP t.2.2 c.page with
          | true =>
            rw [if_pos rfl]
            exact W.2 hh
          | false =>
            rw [if_neg (by simp)]
            have : (wrR' ds c.txn c.page (atV (s.page c.page) t.2.1).body).2 = false := by rw [wrR_flag _ _ _ _ (zs 64), W.1, hh]
            exact (wrR_false this).symm
        · rw [wrS_no (hwk _ k qk), wrS_no (hwk _ k qk)]
          obtain ⟨p1, p2⟩ := put_other hr c.page (wrote (seenV t.2.2 t.2.1 (s.page c.page) c.page).body c.off c.str) (j := k) qk
          show _ = hasP (putP _ _ _) k ∧ (hasP (putP _ _ _) k = true → atP (putP _ _ _) k = _)
          rw [p1, p2]
          exact W
      · rw [if_neg q] at hu
        subst hu
        rw [wrS_no (hwn n k q), wrS_no (hwn n k q)]
        exact O.ws n y hq k k0 k1
  · intro e he e2 e0
    rcases List.mem_append.1 he with m | m
    · exact O.wn e m e2 e0
    · simp at m; subst m
      show c.txn ≤ s.begun
      omega
theorem endL_keys (l : List Live) (n : Int) : (endL l n).map (fun t => t.1) = (l.map (fun t => t.1)).filter fun m => !decide (m = n) := by
  unfold endL
  rw [List.filter_map]
  rfl
/-- What the live ones are behind an end, whatever else has turned. -/
theorem RelO.ended {s s' : St} {ds : List Dn} (O : RelO s ds) {d : Dn} (hk : d.c.kind = 3 ∨ d.c.kind = 4) (h9 : d.r.err ≠ 9) (hlv : s'.live = endL s.live d.c.txn) (hb : s'.begun = s.begun) (hl : s'.pages.length = s.pages.length)
    (hat : ∀ n t, findL s.live n = some t → ∀ k, 0 ≤ k → k < s.pages.length → atV (s'.page k) t.2.1 = atV (s.page k) t.2.1) : RelO s' (ds ++ [d]) := by
  have h0 : ¬ d.c.kind = 0 := by omega
  have h2 : ¬ d.c.kind = 2 := by omega
  have hbg : isBg d = false := by simp [isBg, h0]
  have hw : ∀ n k, isW n k d = false := fun n k => by simp [isW, h2]
  have eb : begs (ds ++ [d]) = begs ds := by rw [begs_snoc, if_neg (by rw [hbg]; simp)]
  have hbn : ∀ n p, n ≠ d.c.txn → bgS n p d = p := fun n p q => bgS_no p (fun z => h0 z.1) fun z => q z.2.1.symm
  have hbe : ∀ p, bgS d.c.txn p d = (p.1, false) := fun p => bgS_end p (fun z => h0 z.1) ⟨hk, rfl, h9⟩
  refine ⟨by rw [eb, hb]; exact O.cnt, ?_, fun n => ?_, fun n t ht => ?_, ?_, fun n t ht k k0 k1 => ?_, ?_⟩
  · rw [eb, hlv, endL_keys, O.keys, List.filter_filter]
    refine List.filter_congr fun n _ => ?_
    rw [findL_end]
    by_cases q : n = d.c.txn
    · simp [q]
    · simp [q]
  · rw [bgR_snoc, hlv, findL_end]
    by_cases q : n = d.c.txn
    · subst q; rw [hbe, if_pos rfl]; rfl
    · rw [hbn n _ q, if_neg q]; exact O.bg n
  · rw [hlv, findL_end] at ht
    by_cases q : n = d.c.txn
    · rw [if_pos q] at ht; cases ht
    · rw [if_neg q] at ht
      rw [bgR_snoc, hbn n _ q, bgV_snoc _ _ _ (isB_bg hbg n)]
      exact O.st n t ht
  · intro e he e3 e0
    rw [hlv, findL_end]
    rcases List.mem_append.1 he with m | m
    · rw [O.en e m e3 e0]; split <;> rfl
    · simp at m; subst m; rw [if_pos rfl]
  · rw [hlv, findL_end] at ht
    by_cases q : n = d.c.txn
    · rw [if_pos q] at ht; cases ht
    · rw [if_neg q] at ht
      rw [hl] at k1
      rw [wrR_snoc, wrR_snoc, wrS_no (hw n k), wrS_no (hw n k), hat n t ht k k0 k1]
      exact O.ws n t ht k k0 k1
  · intro e he e2 e0
    rw [hb]
    rcases List.mem_append.1 he with m | m
    · exact O.wn e m e2 e0
    · simp at m; subst m; exact absurd e2 h2
/-- A transaction ends, and no page gets a version. -/
theorem Both.ended {s : St} {ds : List Dn} (h : Both s ds) (ok : s.Ok) (hc : s.closed = false) {c : Cal} {r : Rep} (hk : c.kind = 3 ∨ c.kind = 4) {t : Live} (ht : findL s.live c.txn = some t) (h9 : r.err ≠ 9) (hts : c.kind = 3 → r.err = 0 → r.ts = t.2.1) :
    Both { s with live := endL s.live c.txn } (ds ++ [⟨c, r⟩]) := by
  have O := h.opn hc
  have h0 : ¬ c.kind = 0 := by omega
  have h2 : ¬ c.kind = 2 := by omega
  have hbg : isBg ⟨c, r⟩ = false := by simp [isBg, h0]
  have hle := ok.tx t (findL_some ht).1
  rw [findL_key ht] at hle
  have hst := (O.st c.txn t ht).2
  refine ⟨h.rel.still ⟨rfl, rfl, Int.le_refl _, fun z => ?_, fun h3 e0 => ?_, fun n _ => isB_bg hbg n, fun e he e3 e0 k => by simp [isW, h2]⟩ (fun z => absurd z h2) ⟨fun z => Or.inl z, fun z => z.elim (fun y => y) fun y => absurd y.1 (by show ¬ c.kind = 7; omega)⟩ (fun z => by rw [hbg] at z; cases z), fun _ => O.ended hk h9 rfl rfl rfl fun _ _ _ _ _ _ => rfl⟩
  · refine z.2.2 ?_
    show r.ts = bgV ds c.txn
    rw [hst]
    exact hts z.1 z.2.1
  · show c.txn ≤ s.begun ∧ bgV ds c.txn ≤ r.ts ∧ r.ts ≤ s.last
    rw [hst, hts h3 e0]
    exact ⟨hle.2.1, Int.le_refl _, hle.2.2.2.1⟩
end Go.Proofs.Ytpncmbkklkfmnaa
namespace Go.Proofs.Ytpncmbkklkfmnaa
open Go.ChangeShapes Go.WideShapes Go.ChangeAt Go.RowKit
open Go.Deep Go.Maps
set_option linter.unusedVariables false
set_option linter.unusedSimpArgs false
set_option maxRecDepth 20000


theorem wrR_out {ds : List Dn} {n k : Int} (h : ∀ e ∈ ds, isW n k e = false) (b : List Int) : wrR' ds n k b = (b, false) := by
  unfold wrR'
  have gen : ∀ (l : List Dn), (∀ e ∈ l, e ∈ ds) → l.foldl (wrS n k) (b, false) = (b, false) := by
    intro l
    induction l with
    | nil => intro _; rfl
    | cons e r ih =>
      intro hm
      rw [List.foldl_cons, wrS_no (h e (hm e (List.mem_cons_self ..)))]
      exact ih fun x hx => hm x (List.mem_cons_of_mem _ hx)
  exact gen ds fun _ q => q
theorem pg_more {s : St} {ws : List (Int × List Int)} {l : List Live} {k : Int} (h0 : 0 ≤ k) : (St.pg { s with live := l, last := s.last + 1, pages := more s.pages ws (s.last + 1) } k) = if k < s.pages.length then (if hasP ws k = true then s.page k ++ [⟨s.last + 1, atP ws k⟩] else s.page k) else [Ver.zero] := by
  unfold St.pg
  simp only [more_length]
  by_cases h : k < s.pages.length
  · rw [if_pos h, if_pos h]
    exact page_more h0 h
  · rw [if_neg h, if_neg h]
theorem pg_at {s : St} {ws : List (Int × List Int)} {l : List Live} {k ts : Int} (h0 : 0 ≤ k) (hts : ts ≤ s.last) : atV (St.pg { s with live := l, last := s.last + 1, pages := more s.pages ws (s.last + 1) } k) ts = atV (s.pg k) ts := by
  rw [pg_more h0]
  unfold St.pg
  split
  · split
    · rw [atV_snoc, if_neg (by show ¬ s.last + 1 ≤ ts; omega)]
    · rfl
  · rfl
theorem Both.commit {s : St} {ds : List Dn} (h : Both s ds) (ok : s.Ok) (hc : s.closed = false) {c : Cal} (h3 : c.kind = 3) {t : Live} (ht : findL s.live c.txn = some t) :
    Both ({ s with live := endL s.live c.txn, last := s.last + 1, pages := more s.pages t.2.2 (s.last + 1) } : St) (ds ++ [(⟨c, ⟨0, 0, s.last + 1, zs 64⟩⟩ : Dn)]) := by
  have O := h.opn hc
  have h0 : ¬ c.kind = 0 := by omega
  have h2 : ¬ c.kind = 2 := by omega
  have hbg : isBg (⟨c, ⟨0, 0, s.last + 1, zs 64⟩⟩ : Dn) = false := by simp [isBg, h0]
  have hw : ∀ n k, isW n k (⟨c, ⟨0, 0, s.last + 1, zs 64⟩⟩ : Dn) = false := fun n k => by simp [isW, h2]
  have hle := ok.tx t (findL_some ht).1
  rw [findL_key ht] at hle
  have hst := (O.st c.txn t ht).2
  have hbv : ∀ n, bgV (ds ++ [(⟨c, ⟨0, 0, s.last + 1, zs 64⟩⟩ : Dn)]) n = bgV ds n := fun n => bgV_snoc _ _ _ (isB_bg hbg n)
  have hwv : ∀ n k b, wrR' (ds ++ [(⟨c, ⟨0, 0, s.last + 1, zs 64⟩⟩ : Dn)]) n k b = wrR' ds n k b := fun n k b => by rw [wrR_snoc, wrS_no (hw n k)]
  have hic : ∀ k e, isC (ds ++ [(⟨c, ⟨0, 0, s.last + 1, zs 64⟩⟩ : Dn)]) k e = isC ds k e := fun k e => by unfold isC; rw [hbv, hwv]
  refine ⟨⟨?_, ?_, ?_, ?_, ?_, ?_, fun k k0 => ?_⟩, fun _ => O.ended (Or.inl h3) (by show ¬ (0 : Int) = 9; decide) rfl rfl (more_length _ _ _) fun n u hu k k0 k1 => ?_⟩
  · intro e he e2 e0
    rcases List.mem_append.1 he with m | m
    · exact h.rel.fit e m e2 e0
    · simp at m; subst m; exact absurd e2 h2
  · show s.closed = true ↔ _
    rw [h.rel.cl]
    constructor
    · rintro ⟨e, he, q⟩
      exact ⟨e, List.mem_append_left _ he, q⟩
    · rintro ⟨e, he, q⟩
      rcases List.mem_append.1 he with m | m
      · exact ⟨e, m, q⟩
      · simp at m; subst m
        have : c.kind = 7 := q.1
        omega
  · rw [lsV_snoc, if_pos ⟨h3, rfl⟩, h.rel.ls]
    show max s.last (s.last + 1) = s.last + 1
    omega
  · intro e he hb
    rcases List.mem_append.1 he with m | m
    · exact h.rel.bn e m hb
    · simp at m; subst m; rw [hbg] at hb; cases hb
  · intro e he e3 e0
    rw [hbv]
    rcases List.mem_append.1 he with m | m
    · have := h.rel.cm e m e3 e0
      exact ⟨this.1, this.2.1, by show e.r.ts ≤ s.last + 1; omega⟩
    · simp at m; subst m
      show c.txn ≤ s.begun ∧ bgV ds c.txn ≤ s.last + 1 ∧ s.last + 1 ≤ s.last + 1
      rw [hst]
      exact ⟨hle.2.1, by omega, Int.le_refl _⟩
  · intro e he e2 e0
    show e.c.page < ((more s.pages t.2.2 (s.last + 1)).length : Int)
    rw [more_length]
    rcases List.mem_append.1 he with m | m
    · exact h.rel.pw e m e2 e0
    · simp at m; subst m; exact absurd e2 h2
  · have e1 : (ds ++ [(⟨c, ⟨0, 0, s.last + 1, zs 64⟩⟩ : Dn)]).filter (isC (ds ++ [(⟨c, ⟨0, 0, s.last + 1, zs 64⟩⟩ : Dn)]) k) = ds.filter (isC ds k) ++ (if (wrR' ds c.txn k (zs 64)).2 = true then [(⟨c, ⟨0, 0, s.last + 1, zs 64⟩⟩ : Dn)] else []) := by
      rw [List.filter_append, List.filter_congr (q := isC ds k) fun e _ => hic k e]
      congr 1
      have : isC (ds ++ [(⟨c, ⟨0, 0, s.last + 1, zs 64⟩⟩ : Dn)]) k (⟨c, ⟨0, 0, s.last + 1, zs 64⟩⟩ : Dn) = (wrR' ds c.txn k (zs 64)).2 := by
        rw [hic]
        unfold isC
        have q1 : decide (((⟨c, ⟨0, 0, s.last + 1, zs 64⟩⟩ : Dn)).r.ts = bgV ds c.txn) = false := by
          refine decide_eq_false ?_
          show ¬ s.last + 1 = bgV ds c.txn
          rw [hst]; omega
        show (decide (c.kind = 3) && decide ((0 : Int) = 0) && !decide (s.last + 1 = bgV ds c.txn) && (wrR' ds c.txn k (zs 64)).2) = _
        rw [decide_eq_true h3, show decide (s.last + 1 = bgV ds c.txn) = false from q1]
        simp
      simp only [List.filter_cons, List.filter_nil, this]
    have e2 : (ds.filter (isC ds k)).map (verOf ({ s with live := endL s.live c.txn, last := s.last + 1, pages := more s.pages t.2.2 (s.last + 1) } : St) (ds ++ [(⟨c, ⟨0, 0, s.last + 1, zs 64⟩⟩ : Dn)]) k) = (ds.filter (isC ds k)).map (verOf s ds k) := by
      refine List.map_congr_left fun e he => ?_
      obtain ⟨m, hi⟩ := List.mem_filter.1 he
      simp only [isC, Bool.and_eq_true, decide_eq_true_eq] at hi
      have hcm := h.rel.cm e m hi.1.1.1 hi.1.1.2
      unfold verOf
      rw [hbv, hwv, pg_at k0 (by omega)]
    rw [e1, List.map_append, e2, pg_more k0]
    have hvs := h.rel.vs k k0
    by_cases hk : k < s.pages.length
    · obtain ⟨kn, rfl⟩ : ∃ kn : Nat, k = (kn : Int) := ⟨k.toNat, by omega⟩
      have W := O.ws c.txn t ht kn (Nat.zero_le _) (by omega)
      have hpgk : s.pg (kn : Int) = s.page (kn : Int) := by unfold St.pg; rw [if_pos hk]
      rw [hpgk] at hvs
      rw [if_pos hk, W.1]
      cases hh : hasP t.2.2 (kn : Int) with
      | true =>
        rw [if_pos rfl, if_pos rfl, hvs]
        show (Ver.zero :: _) ++ _ = Ver.zero :: (_ ++ [verOf ({ s with live := endL s.live c.txn, last := s.last + 1, pages := more s.pages t.2.2 (s.last + 1) } : St) (ds ++ [(⟨c, ⟨0, 0, s.last + 1, zs 64⟩⟩ : Dn)]) (kn : Int) (⟨c, ⟨0, 0, s.last + 1, zs 64⟩⟩ : Dn)])
        rw [List.cons_append]
        congr 2
        congr 1
        unfold verOf
        show Ver.mk (s.last + 1) _ = Ver.mk (s.last + 1) (wrR' (ds ++ [(⟨c, ⟨0, 0, s.last + 1, zs 64⟩⟩ : Dn)]) c.txn (kn : Int) (atV (St.pg ({ s with live := endL s.live c.txn, last := s.last + 1, pages := more s.pages t.2.2 (s.last + 1) } : St) (kn : Int)) (bgV (ds ++ [(⟨c, ⟨0, 0, s.last + 1, zs 64⟩⟩ : Dn)]) c.txn)).body).1
        rw [hwv, hbv, hst, pg_at k0 hle.2.2.2.1, hpgk, ← W.2 hh]
      | false =>
        rw [if_neg (by simp), if_neg (by simp), hvs]
        simp
    · rw [if_neg hk]
      have hq : (wrR' ds c.txn k (zs 64)).2 = false := by
        rw [wrR_out (fun e he => ?_)]
        cases hq : isW c.txn k e with
        | false => rfl
        | true =>
          simp only [isW, Bool.and_eq_true, decide_eq_true_eq] at hq
          have := h.rel.pw e he hq.1.1.1 hq.2
          omega
      rw [hq]
      have hpg : s.pg k = [Ver.zero] := by unfold St.pg; rw [if_neg hk]
      rw [hpg] at hvs
      simp only [Bool.false_eq_true, if_false, List.map_nil, List.append_nil]
      exact hvs
  · have hu2 := (ok.tx u (findL_some hu).1).2.2.2.1
    show atV ((more s.pages t.2.2 (s.last + 1)).getD (k : Int).toNat []) u.2.1 = _
    rw [page_more (by omega) (by omega)]
    split
    · rw [atV_snoc, if_neg (by show ¬ s.last + 1 ≤ u.2.1; omega)]
    · rfl
/-- Any call. -/
theorem Both.step {s : St} {ds : List Dn} (h : Both s ds) (ok : s.Ok) {c : Cal} (hcl : c.Ok) : Both (doS s c) (ds ++ [⟨c, doR s c⟩]) := by
  cases hc : s.closed with
  | true =>
    have er : doR s c = Rep.fail 12 := if_pos hc
    have es : doS s c = s := if_pos hc
    rw [er, es]
    exact h.closed hc c
  | false =>
    by_cases h0 : c.kind = 0
    · have er : doR s c = beginR s := by unfold doR; rw [hc]; simp [h0]
      have es : doS s c = beginS s := by unfold doS; rw [hc]; simp [h0]
      rw [er, es]
      by_cases hl : s.live.length < 8
      · have e1 : beginR s = ⟨0, s.begun + 1, s.last, zs 64⟩ := if_pos hl
        rw [e1]
        exact h.begin ok hc hl h0
      · have e1 : beginR s = Rep.fail 10 := if_neg hl
        have e2 : beginS s = s := if_neg hl
        rw [e1, e2]
        exact (quiet_fail (by decide) (Or.inr ⟨by omega, by omega⟩)).both h
    · by_cases h12 : c.kind = 1 ∨ c.kind = 2
      · obtain ⟨er, es⟩ := do_use_r hc c h12
        rw [er, es]
        by_cases hb : badU s c = true
        · have e1 : useR s c = Rep.fail 1 := if_pos hb
          have e2 : useS s c = s := if_pos hb
          rw [e1, e2]
          exact (quiet_fail (by decide) (Or.inr ⟨by omega, by omega⟩)).both h
        · cases hf : findL s.live c.txn with
          | none =>
            have e1 : useR s c = Rep.fail 9 := by unfold useR; rw [if_neg hb, hf]
            have e2 : useS s c = s := by unfold useS; rw [if_neg hb, hf]
            rw [e1, e2]
            exact (quiet_fail (by decide) (Or.inl rfl)).both h
          | some t =>
            by_cases h1 : c.kind = 1
            · have e2 : useS s c = s := by unfold useS; rw [if_neg hb, hf]; exact if_pos h1
              rw [e2]
              exact (quiet_kind (Or.inl h1)).both h
            · have h2 : c.kind = 2 := by omega
              by_cases hfu : full t.2.2 c.page = true
              · have e1 : useR s c = Rep.fail 10 := by
                  unfold useR; rw [if_neg hb, hf]
                  show (if c.kind = 1 then _ else if full t.2.2 c.page = true then _ else _) = _
                  rw [if_neg h1, if_pos hfu]
                have e2 : useS s c = s := by
                  unfold useS; rw [if_neg hb, hf]
                  show (if c.kind = 1 then _ else if full t.2.2 c.page = true then _ else _) = _
                  rw [if_neg h1, if_pos hfu]
                rw [e1, e2]
                exact (quiet_fail (by decide) (Or.inr ⟨by omega, by omega⟩)).both h
              · have e1 : useR s c = Rep.zero := by
                  unfold useR; rw [if_neg hb, hf]
                  show (if c.kind = 1 then _ else if full t.2.2 c.page = true then _ else _) = _
                  rw [if_neg h1, if_neg hfu]
                have e2 : useS s c = { s with live := setL s.live c.txn (putP t.2.2 c.page (wrote (seenV t.2.2 t.2.1 (s.page c.page) c.page).body c.off c.str)) } := by
                  unfold useS; rw [if_neg hb, hf]
                  show (if c.kind = 1 then _ else if full t.2.2 c.page = true then _ else _) = _
                  rw [if_neg h1, if_neg hfu]
                rw [e1, e2]
                have hp : c.page < s.pages.length ∧ fitsB c.off c.str = true := by
                  unfold badU at hb
                  by_cases q : c.page < s.pages.length
                  · cases hfi : fitsB c.off c.str with
                    | true => exact ⟨q, rfl⟩
                    | false => simp [q, h2, hfi] at hb
                  · simp [q] at hb
                exact h.write ok hc h2 hf hcl.p.1 hp.1 hp.2
      · by_cases h34 : c.kind = 3 ∨ c.kind = 4
        · obtain ⟨er, es⟩ := do_end_r hc c h34
          rw [er, es]
          cases hf : findL s.live c.txn with
          | none =>
            have e1 : endR s c = Rep.fail 9 := by unfold endR; rw [hf]
            have e2 : endS s c = s := by unfold endS; rw [hf]
            rw [e1, e2]
            exact (quiet_fail (by decide) (Or.inl rfl)).both h
          | some t =>
            by_cases h4 : c.kind = 4
            · have e1 : endR s c = Rep.zero := by unfold endR; rw [hf]; exact if_pos h4
              have e2 : endS s c = { s with live := endL s.live c.txn } := by unfold endS; rw [hf]; exact if_pos h4
              rw [e1, e2]
              exact h.ended ok hc h34 hf (by show ¬ (0 : Int) = 9; decide) (fun q => by omega)
            · have h3 : c.kind = 3 := by omega
              have e1 : endR s c = commitR { s with live := endL s.live c.txn } t.2.1 t.2.2 := by unfold endR; rw [hf]; exact if_neg h4
              have e2 : endS s c = commitS { s with live := endL s.live c.txn } t.2.1 t.2.2 := by unfold endS; rw [hf]; exact if_neg h4
              rw [e1, e2]
              unfold commitR commitS
              by_cases q1 : t.2.2 = []
              · rw [if_pos q1, if_pos q1]
                exact h.ended ok hc h34 hf (by show ¬ (0 : Int) = 9; decide) (fun _ _ => rfl)
              · rw [if_neg q1, if_neg q1]
                by_cases q2 : s.last = s.max
                · rw [if_pos q2, if_pos q2]
                  exact h.ended ok hc h34 hf (by show ¬ (8 : Int) = 9; decide) (fun _ q => absurd q (by show ¬ (8 : Int) = 0; decide))
                · rw [if_neg q2, if_neg q2]
                  by_cases q3 : clash { s with live := endL s.live c.txn } t.2.1 t.2.2 = true
                  · rw [if_pos q3, if_pos q3]
                    exact h.ended ok hc h34 hf (by show ¬ (7 : Int) = 9; decide) (fun _ q => absurd q (by show ¬ (7 : Int) = 0; decide))
                  · rw [if_neg q3, if_neg q3]
                    exact h.commit ok hc h3 hf
        · by_cases h7 : c.kind = 7
          · have er : doR s c = Rep.zero := by unfold doR; rw [hc]; simp [h7]
            have es : doS s c = { s with closed := true } := by unfold doS; rw [hc]; simp [h7]
            rw [er, es]
            exact h.close h7
          · by_cases h56 : c.kind = 5 ∨ c.kind = 6
            · have es : doS s c = s := by unfold doS; rw [hc]; simp [h0, h12, h34, h7]
              rw [es]
              exact (quiet_kind (Or.inr h56)).both h
            · have er : doR s c = Rep.fail 1 := by
                unfold doR; rw [hc]
                simp only [Bool.false_eq_true, if_false, h0, h12, h34]
                exact if_neg (by omega)
              have es : doS s c = s := by unfold doS; rw [hc]; simp [h0, h12, h34, h7]
              rw [er, es]
              exact (quiet_fail (by decide) (Or.inr ⟨by omega, by omega⟩)).both h
end Go.Proofs.Ytpncmbkklkfmnaa
namespace Go.Proofs.Ytpncmbkklkfmnaa
open Go.ChangeShapes Go.WideShapes Go.ChangeAt Go.RowKit
open Go.Deep Go.Maps
set_option linter.unusedVariables false
set_option linter.unusedSimpArgs false
set_option maxRecDepth 20000


/-- Commits that gave a page a version no later than a timestamp. -/
def cand (ds : List Dn) (k T : Int) (d : Dn) : Bool := isC ds k d && decide (d.r.ts ≤ T)
theorem find_last {α : Type} (p : α → Bool) (l : List α) : l.reverse.find? p = (l.filter p).getLast? := by
  rw [← List.head?_filter, List.filter_reverse, List.head?_reverse]
theorem at_is {s : St} {ds : List Dn} (h : Rel s ds) {k T : Int} (k0 : 0 ≤ k) (hT : 0 ≤ T) : atV (s.pg k) T = match (ds.filter (cand ds k T)).getLast? with | some d => verOf s ds k d | none => Ver.zero := by
  rw [h.vs k k0]
  unfold atV
  rw [List.reverse_cons, List.find?_append, ← List.map_reverse, List.find?_map]
  have e : ((fun v : Ver => decide (v.ts ≤ T)) ∘ verOf s ds k) = fun d => decide (d.r.ts ≤ T) := by funext d; rfl
  rw [e, find_last, List.filter_filter]
  have e2 : (fun a => decide (a.r.ts ≤ T) && isC ds k a) = cand ds k T := by funext d; unfold cand; rw [Bool.and_comm]
  rw [e2]
  cases (ds.filter (cand ds k T)).getLast? with
  | some d => rfl
  | none =>
    show (([Ver.zero] : List Ver).find? fun v => decide (v.ts ≤ T)).getD Ver.zero = Ver.zero
    have : decide (Ver.zero.ts ≤ T) = true := decide_eq_true hT
    simp [this]
theorem pg_ok {s : St} (ok : s.Ok) {k : Int} (k0 : 0 ≤ k) : VsOk s.last (s.pg k) := by
  unfold St.pg
  split
  · rename_i h
    exact ok.page k0 h
  · refine ⟨fun v hv => ?_, ⟨Ver.zero, [], rfl, rfl⟩, List.pairwise_singleton _ _, ?_⟩
    · simp at hv; subst hv; exact ⟨Ver.zero_ok, ok.lo⟩
    · have := ok.lo
      show ((1 : Nat) : Int) ≤ s.last + 1
      omega
theorem isC_ris {s : St} {ds : List Dn} (h : Rel s ds) (ok : s.Ok) {k : Int} (k0 : 0 ≤ k) : (ds.filter (isC ds k)).Pairwise (fun a b => a.r.ts < b.r.ts) ∧ ∀ d ∈ ds.filter (isC ds k), 0 < d.r.ts := by
  have hr := (pg_ok ok k0).rising
  rw [h.vs k k0] at hr
  obtain ⟨h1, h2⟩ := List.pairwise_cons.1 hr
  refine ⟨?_, fun d hd => h1 (verOf s ds k d) (List.mem_map.2 ⟨d, hd, rfl⟩)⟩
  rw [List.pairwise_map] at h2
  exact h2
/-- The last one among the first calls. -/
def bestD (ds : List Dn) (k T : Int) (j : Nat) : Option Dn := ((ds.take j).filter (cand ds k T)).getLast?
def bestT (o : Option Dn) : Int := match o with | some d => d.r.ts | none => 0
def bestN (o : Option Dn) : Int := match o with | some d => d.c.txn | none => 0
theorem bestD_step {ds : List Dn} {k T : Int} {j : Nat} {d : Dn} (h : ds[j]? = some d) : bestD ds k T (j + 1) = if cand ds k T d = true then some d else bestD ds k T j := by
  unfold bestD
  rw [take_snoc h, List.filter_append]
  by_cases q : cand ds k T d = true
  · rw [if_pos q]; simp [q]
  · rw [if_neg q]; simp [q]
theorem bestD_mem {ds : List Dn} {k T : Int} {j : Nat} {d : Dn} (h : bestD ds k T j = some d) : d ∈ ds.take j ∧ isC ds k d = true ∧ d.r.ts ≤ T := by
  have := List.mem_of_getLast? h
  obtain ⟨h1, h2⟩ := List.mem_filter.1 this
  simp only [cand, Bool.and_eq_true, decide_eq_true_eq] at h2
  exact ⟨h1, h2⟩
/-- One that counts is later than the last one. -/
theorem best_lt {s : St} {ds : List Dn} (h : Rel s ds) (ok : s.Ok) {k T : Int} (k0 : 0 ≤ k) {j : Nat} {d : Dn} (hd : ds[j]? = some d) (hc : isC ds k d = true) : bestT (bestD ds k T j) < d.r.ts := by
  obtain ⟨hr, hp⟩ := isC_ris h ok k0
  have hm : d ∈ ds.filter (isC ds k) := List.mem_filter.2 ⟨List.mem_of_getElem? hd, hc⟩
  cases hb : bestD ds k T j with
  | none => exact hp d hm
  | some e =>
    obtain ⟨h1, h2, _⟩ := bestD_mem hb
    show e.r.ts < d.r.ts
    have hl := (List.getElem?_eq_some_iff.1 hd).1
    have e1 : ds = ds.take j ++ d :: ds.drop (j + 1) := by
      rw [← drop_cons hd, List.take_append_drop]
    have e2 : ds.filter (isC ds k) = (ds.take j).filter (isC ds k) ++ (d :: ds.drop (j + 1)).filter (isC ds k) := by
      conv => lhs; arg 2; rw [e1]
      rw [List.filter_append]
    rw [e2] at hr
    exact (List.pairwise_append.1 hr).2.2 e (List.mem_filter.2 ⟨h1, h2⟩) d (List.mem_filter.2 ⟨List.mem_cons_self .., hc⟩)
theorem best_all {s : St} {ds : List Dn} (h : Rel s ds) {k T : Int} (k0 : 0 ≤ k) (hT : 0 ≤ T) : atV (s.pg k) T = match bestD ds k T ds.length with | some d => verOf s ds k d | none => Ver.zero := by
  have := at_is h k0 hT
  unfold bestD
  rw [List.take_of_length_le (Nat.le_refl _)]
  exact this
/-- Its start is earlier. -/
theorem best_bg {s : St} {ds : List Dn} (h : Rel s ds) {k T : Int} {j : Nat} {d : Dn} (hb : bestD ds k T j = some d) : 0 < d.r.ts ∧ bgV ds d.c.txn < d.r.ts ∧ d.r.ts ≤ T ∨ d.r.ts ≤ 0 := by
  obtain ⟨h1, h2, h3⟩ := bestD_mem hb
  simp only [isC, Bool.and_eq_true, decide_eq_true_eq, Bool.not_eq_true', decide_eq_false_iff_not] at h2
  have hcm := h.cm d (List.mem_of_mem_take h1) h2.1.1.1 h2.1.1.2
  by_cases q : 0 < d.r.ts
  · exact Or.inl ⟨q, by have := hcm.2.1; have := h2.1.2; omega, h3⟩
  · exact Or.inr (by omega)
theorem bgV_lo {s : St} {ds : List Dn} (hts : ∀ d ∈ ds, 0 ≤ d.r.ts) (n : Int) : 0 ≤ bgV ds n := by
  unfold bgV
  cases q : ds.find? fun d => isB d n with
  | none => exact Int.le_refl _
  | some d => exact hts d (List.mem_of_find?_eq_some q)
end Go.Proofs.Ytpncmbkklkfmnaa
namespace Go.Proofs.Ytpncmbkklkfmnaa
open Go.ChangeShapes Go.WideShapes Go.ChangeAt Go.RowKit
open Go.Deep Go.Maps
set_option linter.unusedVariables false
set_option linter.unusedSimpArgs false
set_option maxRecDepth 20000


theorem lvR_is (ds0 : List Dn) : ∀ (l : List Dn) (a b : Int), l.foldl (lvS ds0) (a, b) = (a + (((begs l).filter fun n => (bgR ds0 n).2).length : Nat), b + ((begs l).length : Nat))
  | [], a, b => by simp [begs]
  | d :: r, a, b => by
    rw [List.foldl_cons]
    have hb : begs (d :: r) = if isBg d = true then d.r.txn :: begs r else begs r := by
      unfold begs
      by_cases q : isBg d = true
      · rw [if_pos q, List.filter_cons_of_pos q]; rfl
      · rw [if_neg q, List.filter_cons_of_neg q]
    rw [hb]
    unfold lvS
    by_cases q : isBg d = true
    · have q2 : d.c.kind = 0 ∧ d.r.err = 0 := by simpa [isBg] using q
      rw [if_pos q, if_pos q2]
      show r.foldl (lvS ds0) _ = _
      rw [lvR_is ds0 r]
      by_cases z : (bgR ds0 d.r.txn).2 = true
      · rw [if_pos z, List.filter_cons_of_pos (p := fun n => (bgR ds0 n).2) z]
        simp only [List.length_cons]
        exact Prod.ext (by show _ = _; simp only; omega) (by show _ = _; simp only; omega)
      · rw [if_neg z, List.filter_cons_of_neg (p := fun n => (bgR ds0 n).2) z]
        simp only [List.length_cons]
        exact Prod.ext (by show _ = _; simp only; omega) (by show _ = _; simp only; omega)
    · have q2 : ¬ (d.c.kind = 0 ∧ d.r.err = 0) := by simpa [isBg] using q
      rw [if_neg q, if_neg q2]
      exact lvR_is ds0 r a b
theorem live_is {s : St} {ds : List Dn} (O : RelO s ds) : lvR ds = ((s.live.length : Int), s.begun) := by
  unfold lvR
  rw [lvR_is]
  have e : ((begs ds).filter fun n => (bgR ds n).2) = s.live.map fun t => t.1 := by
    rw [O.keys]
    exact List.filter_congr fun n _ => O.bg n
  rw [e, List.length_map, O.cnt]
  simp
theorem below_snoc : ∀ (ws : List (Int × List Int)), ws.Pairwise (fun p q => p.1 < q.1) → ∀ p : Int, (ws.filter fun x => decide (x.1 < p + 1)).length = (ws.filter fun x => decide (x.1 < p)).length + if hasP ws p = true then 1 else 0
  | [], _, p => rfl
  | y :: r, h, p => by
    obtain ⟨h1, h2⟩ := List.pairwise_cons.1 h
    have ih := below_snoc r h2 p
    have hh : hasP (y :: r) p = (decide (y.1 = p) || hasP r p) := rfl
    rcases Int.lt_trichotomy y.1 p with q | q | q
    · have a1 : decide (y.1 < p + 1) = true := decide_eq_true (by omega)
      have a2 : decide (y.1 < p) = true := decide_eq_true q
      have a3 : decide (y.1 = p) = false := decide_eq_false (by omega)
      rw [hh, a3, List.filter_cons, List.filter_cons, a1, a2]
      simp only [if_true, List.length_cons, Bool.false_or]
      omega
    · have a1 : decide (y.1 < p + 1) = true := decide_eq_true (by omega)
      have a2 : decide (y.1 < p) = false := decide_eq_false (by omega)
      have a3 : decide (y.1 = p) = true := decide_eq_true q
      have hr : hasP r p = false := by
        unfold hasP
        rw [List.any_eq_false]
        intro x hx
        have := h1 x hx
        simp
        omega
      rw [hr] at ih
      rw [hh, a3, List.filter_cons, List.filter_cons, a1, a2]
      simp only [if_true, List.length_cons, Bool.true_or, Bool.false_eq_true, if_false] at ih ⊢
      omega
    · have a1 : decide (y.1 < p + 1) = false := decide_eq_false (by omega)
      have a2 : decide (y.1 < p) = false := decide_eq_false (by omega)
      have a3 : decide (y.1 = p) = false := decide_eq_false (by omega)
      rw [hh, a3, List.filter_cons, List.filter_cons, a1, a2]
      simp only [Bool.false_or, Bool.false_eq_true, if_false]
      exact ih
theorem cnt_is {s : St} {ds : List Dn} (O : RelO s ds) (ok : s.Ok) {n : Int} {t : Live} (ht : findL s.live n = some t) : cntW ds n s.pages.length = t.2.2.length := by
  have W := (ok.tx t (findL_some ht).1).2.2.2.2
  have gen : ∀ p : Nat, p ≤ s.pages.length → cntW ds n p = (t.2.2.filter fun x => decide (x.1 < (p : Int))).length := by
    intro p
    induction p with
    | zero =>
      intro _
      have : t.2.2.filter (fun x => decide (x.1 < ((0 : Nat) : Int))) = [] := List.filter_eq_nil_iff.2 fun x hx => by
        have := (W.wr x hx).2.1
        simp
        omega
      rw [this]; rfl
    | succ p ih =>
      intro hp
      have h1 := below_snoc t.2.2 W.rising (p : Int)
      have h2 := (O.ws n t ht p (Nat.zero_le _) (by omega)).1
      unfold cntW
      rw [ih (by omega), h2]
      have e : ((p + 1 : Nat) : Int) = (p : Int) + 1 := by omega
      rw [e, h1]
  rw [gen _ (Nat.le_refl _)]
  congr 1
  refine List.filter_eq_self.2 fun x hx => ?_
  have := (W.wr x hx).2.2
  simpa using this
theorem clash_is {s : St} {ds : List Dn} (O : RelO s ds) (ok : s.Ok) {n : Int} {t : Live} (ht : findL s.live n = some t) : clash s t.2.1 t.2.2 = true ↔ ∃ p : Nat, p < s.pages.length ∧ (wrR' ds n p (zs 64)).2 = true ∧ t.2.1 < (atV (s.page p) s.last).ts := by
  have W := (ok.tx t (findL_some ht).1).2.2.2.2
  unfold clash
  rw [List.any_eq_true]
  constructor
  · rintro ⟨x, hx, q⟩
    have hw := (W.wr x hx).2
    obtain ⟨p, hp⟩ : ∃ p : Nat, (p : Int) = x.1 := ⟨x.1.toNat, by omega⟩
    refine ⟨p, by omega, ?_, by rw [hp]; exact of_decide_eq_true q⟩
    rw [(O.ws n t ht p (Nat.zero_le _) (by omega)).1, hp]
    exact (at_mem W.rising (show (x.1, x.2) ∈ t.2.2 from hx)).2
  · rintro ⟨p, hp, q1, q2⟩
    rw [(O.ws n t ht p (Nat.zero_le _) hp).1] at q1
    obtain ⟨b, hb⟩ := has_mem q1
    exact ⟨_, hb, decide_eq_true q2⟩
end Go.Proofs.Ytpncmbkklkfmnaa
