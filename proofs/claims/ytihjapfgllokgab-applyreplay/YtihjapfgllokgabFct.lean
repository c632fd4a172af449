/-
  Plain facts of replay: an entry that is about another page changes nothing; what Redo makes is right and bears the entry's LSN; the flag tells whether the page is right.
-/
import Derived.Test.YtihjapfgllokgabRpy
namespace Go.Proofs.Ytihjapfgllokgab
open Go.ChangeShapes Go.WideShapes Go.ChangeAt Go.RowKit
set_option linter.unusedVariables false
set_option linter.unusedSimpArgs false
set_option maxRecDepth 20000

theorem stepR_off {u : Bool} {no : Int} {s : List Int × Bool} {e : En} (h : aboutR u no e.r = false) : stepR u no s e = s := by
  unfold stepR; rw [h]; rfl
/-- Only the entries that are about the page count. -/
theorem fold_filter (u : Bool) (no : Int) : ∀ (es : List En) (s : List Int × Bool), es.foldl (stepR u no) s = (es.filter fun e => aboutR u no e.r).foldl (stepR u no) s
  | [], _ => rfl
  | e :: es, s => by
    rw [List.foldl_cons, fold_filter u no es, List.filter_cons]
    cases h : aboutR u no e.r with
    | false => rw [stepR_off h]; rfl
    | true => rfl
theorem replayR_filter (u : Bool) (no : Int) (p : List Int) (es : List En) : replayR u no p es = replayR u no p (es.filter fun e => aboutR u no e.r) := by
  unfold replayR replayS; rw [fold_filter]
theorem uOf_fits (p : List Int) : ∀ o ∈ uOf p, o.Fits := readO_fits _ _ _
/-- What Redo makes is right, and bears the entry's LSN. -/
theorem redoR_right {u : Bool} {no : Int} {p : List Int} {e : En} (hno : 0 ≤ no ∧ no ≤ 65535) (hp : p.length = 224) (hb : Bytes p) (hf : e.Fits) (h : (redoR u no p e).2 = 0) :
    isP u no (redoR u no p e).1 = true ∧ lsnOf (redoR u no p e).1 = e.lsn := by
  have h1 : (if e.r.kind = 1 then e.r.img else p).length = 224 ∧ Bytes (if e.r.kind = 1 then e.r.img else p) := by
    split
    · exact ⟨hf.r.len, hf.r.img⟩
    · exact ⟨hp, hb⟩
  unfold redoR at h ⊢
  generalize (if e.r.kind = 1 then e.r.img else p) = p1 at h h1 ⊢
  split at h
  · rename_i hc
    rw [if_pos hc]
    cases u with
    | false =>
      rw [if_neg (by decide)] at h ⊢
      unfold redoD2 at h ⊢
      cases hd : redoDR no p1 e with
      | none => rw [hd] at h; simp at h
      | some q =>
        obtain ⟨d, ok, hl, rfl⟩ := redoDR_some h1.1 h1.2 hf hd
        refine ⟨isD_putD no d ok, ?_⟩
        show (dOf (putD no d)).lsn = e.lsn
        rw [dOf_putD no d ok, hl]
    | true =>
      rw [if_pos rfl] at h ⊢
      unfold redoUR at h ⊢
      split at h
      · rename_i hu
        rw [if_pos hu]
        split at h
        · rename_i os hcg
          have hm : may os = true := by
            cases hq : may os with
            | true => rfl
            | false => simp [errU, hq] at h
          have hfo := chgO_fits (uOf_fits p1) hf.r.old hcg
          refine ⟨?_, ?_⟩
          · show isU no (putU no e.lsn os) = true
            unfold putU; rw [if_pos hm, isU_put no no e.lsn os hm hfo hf.lsn hno hno]; simp
          · show lsnOf (putU no e.lsn os) = e.lsn
            unfold putU; rw [if_pos hm]; exact lsnOf_put no e.lsn os hm hf.lsn
        · simp at h
      · simp at h
  · simp at h
/-- The flag that goes along tells whether the page is right. -/
theorem step_flag {u : Bool} {no : Int} {s : List Int × Bool} {e : En} (hno : 0 ≤ no ∧ no ≤ 65535) (hs : s.1.length = 224 ∧ Bytes s.1) (hf : e.Fits) (h : s.2 = isP u no s.1) : (stepR u no s e).2 = isP u no (stepR u no s e).1 := by
  unfold stepR
  split
  · split
    · rename_i hE; exact (redoR_right hno hs.1 hs.2 hf hE).1.symm
    · exact h
  · exact h
theorem fold_flag {u : Bool} {no : Int} (hno : 0 ≤ no ∧ no ≤ 65535) : ∀ (es : List En) (s : List Int × Bool), (∀ e ∈ es, e.Fits) → s.1.length = 224 ∧ Bytes s.1 → s.2 = isP u no s.1 → (es.foldl (stepR u no) s).2 = isP u no (es.foldl (stepR u no) s).1
  | [], _, _, _, h => h
  | e :: es, s, hf, hs, h => fold_flag hno es (stepR u no s e) (fun x hx => hf x (by simp [hx])) (stepR_ok (hf e (by simp)) hs) (step_flag hno hs (hf e (by simp)) h)
/-- A replay that goes on where another ended is one replay. -/
theorem replayS_app (u : Bool) (no : Int) (p : List Int) (l1 l2 : List En) (hno : 0 ≤ no ∧ no ≤ 65535) (hp : p.length = 224) (hb : Bytes p) (hf : ∀ e ∈ l1, e.Fits) :
    replayS u no p (l1 ++ l2) = replayS u no (replayR u no p l1) l2 := by
  have h := fold_flag (u := u) hno l1 (p, isP u no p) hf ⟨hp, hb⟩ rfl
  unfold replayS replayR replayS
  rw [List.foldl_append, ← h]
/-- A step changes nothing, or lays the entry's LSN on the page. -/
theorem step_cases {u : Bool} {no : Int} {s : List Int × Bool} {e : En} (hno : 0 ≤ no ∧ no ≤ 65535) (hs : s.1.length = 224 ∧ Bytes s.1) (hf : e.Fits) :
    stepR u no s e = s ∨ ((stepR u no s e).2 = true ∧ lsnOf (stepR u no s e).1 = e.lsn ∧ dueR s.1 s.2 e = true) := by
  unfold stepR
  cases ha : aboutR u no e.r && dueR s.1 s.2 e with
  | false => exact Or.inl rfl
  | true =>
    have hd : dueR s.1 s.2 e = true := by simp at ha; exact ha.2
    by_cases hE : (redoR u no s.1 e).2 = 0
    · right
      simp only [if_true, if_pos hE]
      exact ⟨trivial, (redoR_right hno hs.1 hs.2 hf hE).2, hd⟩
    · left
      simp [if_neg hE]
/-- Behind a right page that is as new as the entry, the entry changes nothing. -/
theorem step_old {u : Bool} {no : Int} {s : List Int × Bool} {e : En} (h2 : s.2 = true) (hl : e.lsn ≤ lsnOf s.1) : stepR u no s e = s := by
  have hd : dueR s.1 s.2 e = false := by unfold dueR; rw [h2, if_pos rfl]; simp; omega
  unfold stepR; rw [hd]; simp
/-- A log that rises: each entry's LSN is above m, and above those before it. -/
def Rises : Int → List En → Prop
  | _, [] => True
  | m, e :: es => m < e.lsn ∧ Rises e.lsn es
theorem Rises.mono : ∀ {m m' : Int} {es : List En}, Rises m es → m' ≤ m → Rises m' es
  | _, _, [], _, _ => trivial
  | _, _, e :: es, h, hm => ⟨by have := h.1; omega, h.2⟩
theorem Rises.above : ∀ {m : Int} {es : List En}, Rises m es → ∀ e ∈ es, m < e.lsn
  | _, [], _, e, he => by cases he
  | m, a :: es, h, e, he => by
    rcases List.mem_cons.1 he with rfl | he
    · exact h.1
    · have := Rises.above h.2 e he; have := h.1; omega
/-- Over a log that rises: what the first going over left, the second leaves too: at every entry the second either finds the page of the first's end, right and as new, or the first's own page there. -/
theorem fold_again {u : Bool} {no : Int} (hno : 0 ≤ no ∧ no ≤ 65535) : ∀ (es : List En) (m : Int) (s : List Int × Bool), Rises m es → (∀ e ∈ es, e.Fits) → s.1.length = 224 ∧ Bytes s.1 →
    (es.foldl (stepR u no) s = s) ∨ ((es.foldl (stepR u no) s).2 = true ∧ m < lsnOf (es.foldl (stepR u no) s).1)
  | [], _, _, _, _, _ => Or.inl rfl
  | e :: es, m, s, hr, hf, hs => by
    rw [List.foldl_cons]
    have hs1 := stepR_ok (u := u) (no := no) (hf e (by simp)) hs
    rcases fold_again hno es e.lsn (stepR u no s e) hr.2 (fun x hx => hf x (by simp [hx])) hs1 with h | ⟨h, hl⟩
    · rw [h]
      rcases step_cases (u := u) hno hs (hf e (by simp)) with h' | ⟨h1, h2, _⟩
      · exact Or.inl h'
      · exact Or.inr ⟨h1, by rw [h2]; exact hr.1⟩
    · exact Or.inr ⟨h, by have := hr.1; omega⟩
theorem fold_twice {u : Bool} {no : Int} (hno : 0 ≤ no ∧ no ≤ 65535) : ∀ (es : List En) (m : Int) (s : List Int × Bool), Rises m es → (∀ e ∈ es, e.Fits) → s.1.length = 224 ∧ Bytes s.1 →
    es.foldl (stepR u no) (es.foldl (stepR u no) s) = es.foldl (stepR u no) s
  | [], _, _, _, _, _ => rfl
  | e :: es, m, s, hr, hf, hs => by
    have hfe := hf e (by simp)
    have hfs : ∀ x ∈ es, x.Fits := fun x hx => hf x (by simp [hx])
    have hs1 := stepR_ok (u := u) (no := no) hfe hs
    rw [List.foldl_cons, List.foldl_cons]
    have ih := fold_twice (u := u) hno es e.lsn (stepR u no s e) hr.2 hfs hs1
    -- the second going over meets e at the page t
    have key : stepR u no (es.foldl (stepR u no) (stepR u no s e)) e = es.foldl (stepR u no) (stepR u no s e) := by
      rcases fold_again (u := u) hno es e.lsn (stepR u no s e) hr.2 hfs hs1 with h | ⟨h, hl⟩
      · rw [h]
        rcases step_cases (u := u) hno hs hfe with h' | ⟨h1, h2, _⟩
        · rw [h', h']
        · exact step_old h1 (by rw [h2]; exact Int.le_refl _)
      · exact step_old h (by omega)
    rw [key]; exact ih
/-- A log gone over up to a place, then whole, makes the same as gone over once. -/
theorem fold_part {u : Bool} {no : Int} (hno : 0 ≤ no ∧ no ≤ 65535) (l1 l2 : List En) (m : Int) (s : List Int × Bool) (hr : Rises m (l1 ++ l2)) (hf : ∀ e ∈ l1 ++ l2, e.Fits) (hs : s.1.length = 224 ∧ Bytes s.1) :
    (l1 ++ l2).foldl (stepR u no) (l1.foldl (stepR u no) s) = (l1 ++ l2).foldl (stepR u no) s := by
  have hr1 : Rises m l1 := by
    clear hf hs
    induction l1 generalizing m with
    | nil => trivial
    | cons e l ih => exact ⟨hr.1, ih _ hr.2⟩
  rw [List.foldl_append, fold_twice hno l1 m s hr1 (fun e he => hf e (by simp [he])) hs, ← List.foldl_append]
end Go.Proofs.Ytihjapfgllokgab
