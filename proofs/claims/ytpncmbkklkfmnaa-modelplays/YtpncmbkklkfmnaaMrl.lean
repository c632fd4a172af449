/-
  Plain facts: the machine beside all calls that were done.
-/
import Derived.Test.YtpncmbkklkfmnaaMrc
namespace Go.Proofs.Ytpncmbkklkfmnaa
open Go.ChangeShapes Go.WideShapes Go.ChangeAt Go.RowKit
open Go.Deep Go.Maps
set_option linter.unusedVariables false
set_option linter.unusedSimpArgs false
set_option maxRecDepth 20000


theorem bgR_snoc (ds : List Dn) (d : Dn) (n : Int) : bgR (ds ++ [d]) n = bgS n (bgR ds n) d := by unfold bgR; rw [List.foldl_append]; rfl
theorem wrR_snoc (ds : List Dn) (d : Dn) (n k : Int) (b : List Int) : wrR' (ds ++ [d]) n k b = wrS n k (wrR' ds n k b) d := by unfold wrR'; rw [List.foldl_append]; rfl
theorem lsV_snoc (ds : List Dn) (d : Dn) : lsV (ds ++ [d]) = if d.c.kind = 3 ∧ d.r.err = 0 then max (lsV ds) d.r.ts else lsV ds := by unfold lsV; rw [List.foldl_append]; rfl
theorem bgV_snoc (ds : List Dn) (d : Dn) (n : Int) (h : isB d n = false) : bgV (ds ++ [d]) n = bgV ds n := by
  unfold bgV
  rw [List.find?_append]
  cases q : ds.find? fun d => isB d n with
  | some e => rfl
  | none => simp [h]
theorem bgV_new (ds : List Dn) (d : Dn) (n : Int) (h : ∀ e ∈ ds, isB e n = false) (hd : isB d n = true) : bgV (ds ++ [d]) n = d.r.ts := by
  have q : ds.find? (fun d => isB d n) = none := List.find?_eq_none.2 fun e he => by rw [h e he]; simp
  unfold bgV
  rw [List.find?_append, q]
  simp [hd]
/-- Whether writes have been done does not hang on what was there. -/
theorem wrR_flag (ds : List Dn) (n k : Int) (b c : List Int) : (wrR' ds n k b).2 = (wrR' ds n k c).2 := by
  unfold wrR'
  have gen : ∀ (l : List Dn) (p q : List Int × Bool), p.2 = q.2 → (l.foldl (wrS n k) p).2 = (l.foldl (wrS n k) q).2 := by
    intro l
    induction l with
    | nil => intro p q h; exact h
    | cons d r ih =>
      intro p q h
      rw [List.foldl_cons, List.foldl_cons]
      refine ih _ _ ?_
      unfold wrS
      split
      · rfl
      · exact h
  exact gen ds _ _ rfl
/-- The begins that were done. -/
def isBg (d : Dn) : Bool := decide (d.c.kind = 0) && decide (d.r.err = 0)
def begs (ds : List Dn) : List Int := (ds.filter isBg).map fun d => d.r.txn
theorem begs_snoc (ds : List Dn) (d : Dn) : begs (ds ++ [d]) = if isBg d = true then begs ds ++ [d.r.txn] else begs ds := by
  unfold begs
  rw [List.filter_append]
  by_cases h : isBg d = true
  · rw [if_pos h]; simp [h]
  · rw [if_neg h]; simp [h]
/-- Whether a call is a commit that gave a page a version. -/
def isC (ds : List Dn) (k : Int) (d : Dn) : Bool := decide (d.c.kind = 3) && decide (d.r.err = 0) && !decide (d.r.ts = bgV ds d.c.txn) && (wrR' ds d.c.txn k (zs 64)).2
/-- The versions of a page. -/
def St.pg (s : St) (k : Int) : List Ver := if k < s.pages.length then s.page k else [Ver.zero]
def verOf (s : St) (ds : List Dn) (k : Int) (d : Dn) : Ver := ⟨d.r.ts, (wrR' ds d.c.txn k (atV (s.pg k) (bgV ds d.c.txn)).body).1⟩
/-- The machine is what the calls tell. -/
structure Rel (s : St) (ds : List Dn) : Prop where
  fit : Fit ds
  cl : s.closed = true ↔ ∃ d ∈ ds, d.c.kind = 7 ∧ d.r.err = 0
  ls : lsV ds = s.last
  bn : ∀ d ∈ ds, isBg d = true → 1 ≤ d.r.txn ∧ d.r.txn ≤ s.begun
  cm : ∀ d ∈ ds, d.c.kind = 3 → d.r.err = 0 → d.c.txn ≤ s.begun ∧ bgV ds d.c.txn ≤ d.r.ts ∧ d.r.ts ≤ s.last
  pw : ∀ d ∈ ds, d.c.kind = 2 → d.r.err = 0 → d.c.page < s.pages.length
  vs : ∀ k, 0 ≤ k → s.pg k = Ver.zero :: (ds.filter (isC ds k)).map (verOf s ds k)
/-- While it is open. -/
structure RelO (s : St) (ds : List Dn) : Prop where
  cnt : ((begs ds).length : Int) = s.begun
  keys : s.live.map (fun t => t.1) = (begs ds).filter fun n => (findL s.live n).isSome
  bg : ∀ n, (bgR ds n).2 = (findL s.live n).isSome
  st : ∀ n t, findL s.live n = some t → (bgR ds n).1 = t.2.1 ∧ bgV ds n = t.2.1
  en : ∀ d ∈ ds, d.c.kind = 3 → d.r.err = 0 → findL s.live d.c.txn = none
  ws : ∀ n t, findL s.live n = some t → ∀ k, 0 ≤ k → k < s.pages.length → (wrR' ds n k (zs 64)).2 = hasP t.2.2 k ∧ (hasP t.2.2 k = true → atP t.2.2 k = (wrR' ds n k (atV (s.page k) t.2.1).body).1)
  wn : ∀ d ∈ ds, d.c.kind = 2 → d.r.err = 0 → d.c.txn ≤ s.begun
theorem Rel.start (n : Nat) (mx : Int) : Rel (newS n mx) [] ∧ RelO (newS n mx) [] := by
  refine ⟨⟨fun d hd => (nomatch hd), ⟨(fun h => by cases h), fun ⟨d, hd, _⟩ => (nomatch hd)⟩, rfl, fun d hd => (nomatch hd), fun d hd => (nomatch hd), fun d hd => (nomatch hd), fun k hk => ?_⟩, ⟨rfl, rfl, fun n => rfl, (fun n t h => by cases h), fun d hd => (nomatch hd), (fun n t h => by cases h), fun d hd => (nomatch hd)⟩⟩
  unfold St.pg
  split
  · rename_i h
    unfold St.page newS
    simp only [newS, List.length_replicate] at h
    simp only
    rw [List.getD_eq_getElem?_getD, List.getElem?_replicate, if_pos (by omega)]
    rfl
  · rfl
/-- A call that tells nothing new of versions. -/
structure Still (s s' : St) (ds : List Dn) (d : Dn) : Prop where
  pages : s'.pages = s.pages
  last : s'.last = s.last
  begun : s.begun ≤ s'.begun
  noC : ¬ (d.c.kind = 3 ∧ d.r.err = 0 ∧ d.r.ts ≠ bgV ds d.c.txn)
  noL : d.c.kind = 3 → d.r.err = 0 → d.c.txn ≤ s'.begun ∧ bgV ds d.c.txn ≤ d.r.ts ∧ d.r.ts ≤ s.last
  noB : ∀ n, n ≤ s.begun → isB d n = false
  noW : ∀ e ∈ ds, e.c.kind = 3 → e.r.err = 0 → ∀ k, isW e.c.txn k d = false
theorem Still.isC_old {s s' : St} {ds : List Dn} {d : Dn} (q : Still s s' ds d) (h : Rel s ds) {k : Int} {e : Dn} (he : e ∈ ds) : isC (ds ++ [d]) k e = isC ds k e := by
  unfold isC
  by_cases h3 : e.c.kind = 3
  · by_cases h0 : e.r.err = 0
    · have hn := h.cm e he h3 h0
      rw [bgV_snoc _ _ _ (q.noB _ hn.1), wrR_snoc]
      have : wrS e.c.txn k (wrR' ds e.c.txn k (zs 64)) d = wrR' ds e.c.txn k (zs 64) := by unfold wrS; rw [if_neg (by rw [q.noW e he h3 h0 k]; simp)]
      rw [this]
    · simp [h0]
  · simp [h3]
theorem Still.ver_old {s s' : St} {ds : List Dn} {d : Dn} (q : Still s s' ds d) (h : Rel s ds) {k : Int} {e : Dn} (he : e ∈ ds) (hc : isC ds k e = true) : verOf s' (ds ++ [d]) k e = verOf s ds k e := by
  simp only [isC, Bool.and_eq_true, decide_eq_true_eq] at hc
  have hn := h.cm e he hc.1.1.1 hc.1.1.2
  have ep : s'.pg k = s.pg k := by unfold St.pg St.page; rw [q.pages]
  unfold verOf
  rw [ep, bgV_snoc _ _ _ (q.noB _ hn.1), wrR_snoc]
  have : ∀ b, wrS e.c.txn k (wrR' ds e.c.txn k b) d = wrR' ds e.c.txn k b := fun b => by unfold wrS; rw [if_neg (by rw [q.noW e he hc.1.1.1 hc.1.1.2 k]; simp)]
  rw [this]
theorem Still.vs {s s' : St} {ds : List Dn} {d : Dn} (q : Still s s' ds d) (h : Rel s ds) (k : Int) (hk : 0 ≤ k) : s'.pg k = Ver.zero :: ((ds ++ [d]).filter (isC (ds ++ [d]) k)).map (verOf s' (ds ++ [d]) k) := by
  have ep : s'.pg k = s.pg k := by unfold St.pg St.page; rw [q.pages]
  have hd : isC (ds ++ [d]) k d = false := by
    cases hc : isC (ds ++ [d]) k d with
    | false => rfl
    | true =>
      simp only [isC, Bool.and_eq_true, decide_eq_true_eq, Bool.not_eq_true', decide_eq_false_iff_not] at hc
      have hl := q.noL hc.1.1.1 hc.1.1.2
      refine absurd ⟨hc.1.1.1, hc.1.1.2, ?_⟩ q.noC
      have hB : isB d d.c.txn = false := by simp [isB, hc.1.1.1]
      rw [← bgV_snoc ds d _ hB]
      exact hc.1.2
  have e1 : (ds ++ [d]).filter (isC (ds ++ [d]) k) = ds.filter (isC ds k) := by
    rw [List.filter_append]
    simp only [List.filter_cons, List.filter_nil, hd]
    simp
    exact List.filter_congr fun e he => q.isC_old h he
  rw [ep, h.vs k hk, e1]
  congr 1
  refine List.map_congr_left fun e he => ?_
  have := List.mem_filter.1 he
  exact (q.ver_old h this.1 this.2).symm
end Go.Proofs.Ytpncmbkklkfmnaa
