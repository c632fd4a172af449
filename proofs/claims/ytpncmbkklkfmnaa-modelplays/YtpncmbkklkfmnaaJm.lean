/-
  Plain facts on the machine as the document tells it. Proved here: what all of the model's statements use in their walks.
-/
import Derived.Test.YtpncmbkklkfmnaaMop
namespace Go.Proofs.Ytpncmbkklkfmnaa
open Go.ChangeShapes Go.WideShapes Go.ChangeAt Go.RowKit
open Go.Deep Go.Maps
set_option linter.unusedVariables false
set_option linter.unusedSimpArgs false
set_option maxRecDepth 20000


theorem findL_end (l : List Live) (k n : Int) : findL (endL l k) n = if n = k then none else findL l n := by
  unfold findL endL
  induction l with
  | nil => simp
  | cons x r ih =>
    by_cases hk : x.1 = k
    · have e : (x :: r).filter (fun t => !decide (t.1 = k)) = r.filter (fun t => !decide (t.1 = k)) := by simp [hk]
      rw [e, ih]
      by_cases hn : n = k
      · simp [hn]
      · have : ¬ x.1 = n := by omega
        simp [hn, this]
    · have e : (x :: r).filter (fun t => !decide (t.1 = k)) = x :: r.filter (fun t => !decide (t.1 = k)) := by simp [hk]
      rw [e, List.find?_cons, List.find?_cons, ih]
      by_cases hx : x.1 = n
      · have : ¬ n = k := by omega
        simp [hx, this]
      · simp [hx]
theorem findL_set (l : List Live) (k n : Int) (ws : List (Int × List Int)) : findL (setL l k ws) n = (findL l n).map fun t => if n = k then (t.1, t.2.1, ws) else t := by
  unfold findL setL
  induction l with
  | nil => simp
  | cons x r ih =>
    rw [List.map_cons, List.find?_cons, List.find?_cons]
    by_cases hx : x.1 = n
    · by_cases hk : x.1 = k
      · have : n = k := by omega
        simp [hx, this]
      · have : ¬ n = k := by omega
        simp [hx, this]
    · have e : (if x.1 = k then (x.1, x.2.1, ws) else x).1 = x.1 := by split <;> rfl
      rw [e]
      simp [hx]
      have := ih
      simpa using this
theorem findL_append (l : List Live) (x : Live) (n : Int) : findL (l ++ [x]) n = match findL l n with | some t => some t | none => if x.1 = n then some x else none := by
  unfold findL
  rw [List.find?_append]
  cases h : l.find? fun t => decide (t.1 = n) with
  | some t => rfl
  | none =>
    by_cases hx : x.1 = n
    · simp [hx]
    · simp [hx]
theorem findL_none {s : St} (ok : s.Ok) {n : Int} (h : n < 1 ∨ s.begun < n) : findL s.live n = none := by
  unfold findL
  rw [List.find?_eq_none]
  intro t ht
  have := ok.tx t ht
  simp
  omega
theorem page_more {s : St} {ws : List (Int × List Int)} {ts : Int} {k : Int} (h0 : 0 ≤ k) (h1 : k < s.pages.length) : (more s.pages ws ts).getD k.toNat [] = if hasP ws k = true then s.page k ++ [⟨ts, atP ws k⟩] else s.page k := by
  have hk : k.toNat < s.pages.length := by omega
  have e : ((k.toNat : Nat) : Int) = k := by omega
  unfold more St.page
  rw [List.getD_eq_getElem?_getD, List.getElem?_mapIdx, List.getD_eq_getElem?_getD, List.getElem?_eq_getElem hk]
  simp only [Option.map_some, Option.getD_some, e]
theorem more_length (pages : List (List Ver)) (ws : List (Int × List Int)) (ts : Int) : (more pages ws ts).length = pages.length := by simp [more]
/-- What a commit leaves as it is. -/
theorem commitS_keep (s : St) (a : Int) (ws : List (Int × List Int)) : (commitS s a ws).pages.length = s.pages.length ∧ (commitS s a ws).max = s.max ∧ s.last ≤ (commitS s a ws).last ∧ (commitS s a ws).last ≤ s.last + 1 ∧ (commitS s a ws).closed = s.closed ∧ (commitS s a ws).live = s.live ∧ (commitS s a ws).begun = s.begun := by
  unfold commitS
  split
  · exact ⟨rfl, rfl, Int.le_refl _, by omega, rfl, rfl, rfl⟩
  · split
    · exact ⟨rfl, rfl, Int.le_refl _, by omega, rfl, rfl, rfl⟩
    · split
      · exact ⟨rfl, rfl, Int.le_refl _, by omega, rfl, rfl, rfl⟩
      · exact ⟨more_length _ _ _, rfl, by show s.last ≤ s.last + 1; omega, Int.le_refl _, rfl, rfl, rfl⟩
theorem commitS_at (s : St) (a : Int) (ws : List (Int × List Int)) {k ts : Int} (h0 : 0 ≤ k) (h1 : k < s.pages.length) (hts : ts ≤ s.last) : atV ((commitS s a ws).page k) ts = atV (s.page k) ts := by
  unfold commitS
  split
  · rfl
  · split
    · rfl
    · split
      · rfl
      · show atV ((more s.pages ws (s.last + 1)).getD k.toNat []) ts = _
        rw [page_more h0 h1]
        split
        · rw [atV_snoc, if_neg (by show ¬ s.last + 1 ≤ ts; omega)]
        · rfl
/-- What a call of another transaction leaves as it is. -/
structure Keeps (s s' : St) (n k ts : Int) : Prop where
  len : s'.pages.length = s.pages.length
  max : s'.max = s.max
  lo : s.last ≤ s'.last
  hi : s'.last ≤ s.last + 1
  cl : s'.closed = s.closed
  fd : ∀ t, findL s.live n = some t → findL s'.live n = some t
  av : ts ≤ s.last → atV (s'.page k) ts = atV (s.page k) ts
theorem Keeps.refl (s : St) (n k ts : Int) : Keeps s s n k ts := ⟨rfl, rfl, Int.le_refl _, by omega, rfl, fun _ h => h, fun _ => rfl⟩
theorem useS_is (s : St) (c : Cal) : useS s c = s ∨ ∃ ws, useS s c = { s with live := setL s.live c.txn ws } := by
  unfold useS
  split
  · exact Or.inl rfl
  · cases findL s.live c.txn with
    | none => exact Or.inl rfl
    | some t =>
      show (if c.kind = 1 then s else if full t.2.2 c.page = true then s else _ : St) = s ∨ ∃ ws, (if c.kind = 1 then s else if full t.2.2 c.page = true then s else { s with live := setL s.live c.txn (putP t.2.2 c.page (wrote (seenV t.2.2 t.2.1 (s.page c.page) c.page).body c.off c.str)) } : St) = _
      split
      · exact Or.inl rfl
      · split
        · exact Or.inl rfl
        · exact Or.inr ⟨_, rfl⟩
theorem endS_is (s : St) (c : Cal) : endS s c = s ∨ endS s c = { s with live := endL s.live c.txn } ∨ ∃ a ws, endS s c = commitS { s with live := endL s.live c.txn } a ws := by
  unfold endS
  cases findL s.live c.txn with
  | none => exact Or.inl rfl
  | some t =>
    show (if c.kind = 4 then _ else commitS _ _ _ : St) = _ ∨ (if c.kind = 4 then ({ s with live := endL s.live c.txn } : St) else commitS { s with live := endL s.live c.txn } t.2.1 t.2.2) = _ ∨ ∃ a ws, (if c.kind = 4 then ({ s with live := endL s.live c.txn } : St) else commitS { s with live := endL s.live c.txn } t.2.1 t.2.2) = _
    split
    · exact Or.inr (Or.inl rfl)
    · exact Or.inr (Or.inr ⟨_, _, rfl⟩)
theorem doS_keeps (s : St) (c : Cal) {n k ts : Int} (hn : c.txn ≠ n) (hk : c.kind < 7) (h0 : 0 ≤ k) (h1 : k < s.pages.length) : Keeps s (doS s c) n k ts := by
  have hn' : ¬ n = c.txn := fun e => hn e.symm
  unfold doS
  split
  · exact Keeps.refl ..
  · split
    · unfold beginS
      split
      · exact ⟨rfl, rfl, Int.le_refl _, by show s.last ≤ s.last + 1; omega, rfl, fun t h => by show findL (s.live ++ [_]) n = _; rw [findL_append, h], fun _ => rfl⟩
      · exact Keeps.refl ..
    · split
      · rcases useS_is s c with e | ⟨ws, e⟩
        · rw [e]; exact Keeps.refl ..
        · rw [e]
          exact ⟨rfl, rfl, Int.le_refl _, by show s.last ≤ s.last + 1; omega, rfl, fun t h => by show findL (setL s.live c.txn ws) n = _; rw [findL_set, h]; simp [hn'], fun _ => rfl⟩
      · split
        · have hf : ∀ t, findL s.live n = some t → findL (endL s.live c.txn) n = some t := fun t h => by rw [findL_end, if_neg hn']; exact h
          rcases endS_is s c with e | e | ⟨a, ws, e⟩
          · rw [e]; exact Keeps.refl ..
          · rw [e]
            exact ⟨rfl, rfl, Int.le_refl _, by show s.last ≤ s.last + 1; omega, rfl, hf, fun _ => rfl⟩
          · rw [e]
            obtain ⟨q1, q2, q3, q4, q5, q6, q7⟩ := commitS_keep { s with live := endL s.live c.txn } a ws
            exact ⟨q1, q2, q3, q4, q5, fun t h => by rw [q6]; exact hf t h, fun hts => commitS_at { s with live := endL s.live c.txn } a ws h0 h1 hts⟩
        · split
          · rename_i h7
            exact absurd h7 (by omega)
          · exact Keeps.refl ..
/-- A transaction is live, with what it has written. -/
structure Has (s : St) (n st : Int) (ws : List (Int × List Int)) : Prop where
  cl : s.closed = false
  fd : findL s.live n = some (n, st, ws)
def cB : Cal := ⟨0, 0, 0, 0, ⟨#[]⟩⟩
def cR (n k : Int) : Cal := ⟨1, n, k, 0, ⟨#[]⟩⟩
def cW (n k : Int) (t : ByteArray) : Cal := ⟨2, n, k, 0, t⟩
def cE (d n : Int) : Cal := ⟨d, n, 0, 0, ⟨#[]⟩⟩
theorem do_begin_r {s : St} (hc : s.closed = false) : doR s cB = beginR s ∧ doS s cB = beginS s := by
  unfold doR doS cB
  rw [hc]
  exact ⟨rfl, rfl⟩
theorem begun_has {s : St} (ok : s.Ok) (hc : s.closed = false) (hl : s.live.length < 8) : doR s cB = ⟨0, s.begun + 1, s.last, zs 64⟩ ∧ Has (doS s cB) (s.begun + 1) s.last [] ∧ (∀ n st ws, Has s n st ws → Has (doS s cB) n st ws) ∧ (doS s cB).pages = s.pages ∧ (doS s cB).last = s.last ∧ (doS s cB).max = s.max ∧ (doS s cB).begun = s.begun + 1 := by
  obtain ⟨e1, e2⟩ := do_begin_r hc
  rw [e1, e2]
  unfold beginR beginS
  rw [if_pos hl, if_pos hl]
  refine ⟨rfl, ⟨hc, ?_⟩, fun n st ws h => ⟨hc, ?_⟩, rfl, rfl, rfl, rfl⟩
  · show findL (s.live ++ [_]) _ = _
    rw [findL_append, findL_none ok (Or.inr (by omega))]
    simp
  · show findL (s.live ++ [_]) _ = _
    rw [findL_append, h.fd]
theorem begun_none {s : St} (hc : s.closed = false) (hl : ¬ s.live.length < 8) : doR s cB = Rep.fail 10 ∧ doS s cB = s := by
  obtain ⟨e1, e2⟩ := do_begin_r hc
  rw [e1, e2]
  unfold beginR beginS
  rw [if_neg hl, if_neg hl]
  exact ⟨rfl, rfl⟩
theorem do_use_r {s : St} (hc : s.closed = false) (c : Cal) (hk : c.kind = 1 ∨ c.kind = 2) : doR s c = useR s c ∧ doS s c = useS s c := by
  have h0 : ¬ c.kind = 0 := by omega
  unfold doR doS
  rw [hc]
  simp only [Bool.false_eq_true, if_false, h0, hk, if_true]
  exact ⟨trivial, trivial⟩
theorem do_end_r {s : St} (hc : s.closed = false) (c : Cal) (hk : c.kind = 3 ∨ c.kind = 4) : doR s c = endR s c ∧ doS s c = endS s c := by
  have h0 : ¬ c.kind = 0 := by omega
  have h1 : ¬ (c.kind = 1 ∨ c.kind = 2) := by omega
  unfold doR doS
  rw [hc]
  simp only [Bool.false_eq_true, if_false, h0, h1, hk, if_true]
  exact ⟨trivial, trivial⟩
theorem fits0 {t : ByteArray} (h : t.size ≤ 64) : fitsB 0 t = true := by
  simp [fitsB]; omega
theorem has_write {s : St} {n st k : Int} (h : Has s n st []) (h0 : 0 ≤ k) (h1 : k < s.pages.length) {t : ByteArray} (ht : t.size ≤ 64) :
    doR s (cW n k t) = Rep.zero ∧ Has (doS s (cW n k t)) n st [(k, wrote (atV (s.page k) st).body 0 t)] ∧ (∀ n' st' ws', n' ≠ n → Has s n' st' ws' → Has (doS s (cW n k t)) n' st' ws') ∧ (doS s (cW n k t)).pages = s.pages ∧ (doS s (cW n k t)).last = s.last ∧ (doS s (cW n k t)).max = s.max := by
  obtain ⟨e1, e2⟩ := do_use_r h.cl (cW n k t) (Or.inr rfl)
  rw [e1, e2]
  have hb : badU s (cW n k t) = false := by
    unfold badU
    have a : decide ((cW n k t).page < (s.pages.length : Int)) = true := decide_eq_true h1
    have b : fitsB (cW n k t).off (cW n k t).str = true := fits0 ht
    rw [a, b]; rfl
  have hf : findL s.live (cW n k t).txn = some (n, st, []) := h.fd
  have er : useR s (cW n k t) = Rep.zero := by unfold useR; rw [hb, hf]; rfl
  have es : useS s (cW n k t) = { s with live := setL s.live n [(k, wrote (atV (s.page k) st).body 0 t)] } := by unfold useS; rw [hb, hf]; rfl
  rw [er, es]
  refine ⟨rfl, ⟨h.cl, ?_⟩, fun n' st' ws' hne h' => ⟨h.cl, ?_⟩, rfl, rfl, rfl⟩
  · show findL (setL s.live n _) n = _
    rw [findL_set, h.fd]; simp
  · show findL (setL s.live n _) n' = _
    rw [findL_set, h'.fd]; simp [hne]
theorem none_write {s : St} (ok : s.Ok) (hc : s.closed = false) {k : Int} (h1 : k < s.pages.length) {t : ByteArray} (ht : t.size ≤ 64) : doR s (cW 0 k t) = Rep.fail 9 ∧ doS s (cW 0 k t) = s := by
  obtain ⟨e1, e2⟩ := do_use_r hc (cW 0 k t) (Or.inr rfl)
  rw [e1, e2]
  have hb : badU s (cW 0 k t) = false := by
    unfold badU
    have a : decide ((cW 0 k t).page < (s.pages.length : Int)) = true := decide_eq_true h1
    have b : fitsB (cW 0 k t).off (cW 0 k t).str = true := fits0 ht
    rw [a, b]; rfl
  have hf : findL s.live (cW 0 k t).txn = none := findL_none ok (Or.inl (by show (0 : Int) < 1; omega))
  refine ⟨?_, ?_⟩
  · unfold useR; rw [hb, hf]; rfl
  · unfold useS; rw [hb, hf]; rfl
theorem has_read {s : St} {n st k : Int} {ws : List (Int × List Int)} (h : Has s n st ws) (h1 : k < s.pages.length) : doR s (cR n k) = ⟨0, 0, (seenV ws st (s.page k) k).ts, (seenV ws st (s.page k) k).body⟩ ∧ doS s (cR n k) = s := by
  obtain ⟨e1, e2⟩ := do_use_r h.cl (cR n k) (Or.inl rfl)
  rw [e1, e2]
  have hb : badU s (cR n k) = false := by
    unfold badU
    have a : decide ((cR n k).page < (s.pages.length : Int)) = true := decide_eq_true h1
    rw [a]; rfl
  have hf : findL s.live (cR n k).txn = some (n, st, ws) := h.fd
  refine ⟨?_, ?_⟩
  · unfold useR; rw [hb, hf]; rfl
  · unfold useS; rw [hb, hf]; rfl
theorem seen_none (st : Int) (vs : List Ver) (k : Int) : seenV [] st vs k = atV vs st := rfl
theorem seen_own (st : Int) (vs : List Ver) (k : Int) (b : List Int) : seenV [(k, b)] st vs k = ⟨st, b⟩ := by
  have e1 : hasP [(k, b)] k = true := by simp [hasP]
  have e2 : atP [(k, b)] k = b := by simp [atP]
  unfold seenV
  rw [if_pos e1, e2]
theorem has_commit0 {s : St} {n st : Int} (h : Has s n st []) : doR s (cE 3 n) = ⟨0, 0, st, zs 64⟩ := by
  rw [(do_end_r h.cl (cE 3 n) (Or.inl rfl)).1]
  have hf : findL s.live (cE 3 n).txn = some (n, st, []) := h.fd
  unfold endR
  rw [hf]; rfl
theorem end_none' {s : St} (hc : s.closed = false) {d n : Int} (hd : d = 3 ∨ d = 4) (h : findL s.live n = none) : doR s (cE d n) = Rep.fail 9 ∧ doS s (cE d n) = s := by
  obtain ⟨e1, e2⟩ := do_end_r hc (cE d n) hd
  rw [e1, e2]
  have hf : findL s.live (cE d n).txn = none := h
  refine ⟨?_, ?_⟩
  · unfold endR; rw [hf]
  · unfold endS; rw [hf]
theorem has_abort {s : St} {n st : Int} {ws : List (Int × List Int)} (h : Has s n st ws) : doR s (cE 4 n) = Rep.zero ∧ doS s (cE 4 n) = { s with live := endL s.live n } := by
  obtain ⟨e1, e2⟩ := do_end_r h.cl (cE 4 n) (Or.inr rfl)
  rw [e1, e2]
  have hf : findL s.live (cE 4 n).txn = some (n, st, ws) := h.fd
  refine ⟨?_, ?_⟩
  · unfold endR; rw [hf]; rfl
  · unfold endS; rw [hf]; rfl
theorem clash_one (s : St) (st k : Int) (b : List Int) : clash s st [(k, b)] = decide (st < (atV (s.page k) s.last).ts) := by simp [clash]
theorem has_commit {s : St} (ok : s.Ok) {n st k : Int} {b : List Int} (h : Has s n st [(k, b)]) (h0 : 0 ≤ k) (h1 : k < s.pages.length) (hst : st = s.last) (hmx : s.last < s.max) :
    doR s (cE 3 n) = ⟨0, 0, s.last + 1, zs 64⟩ ∧ (doS s (cE 3 n)).page k = s.page k ++ [⟨s.last + 1, b⟩] ∧ (doS s (cE 3 n)).last = s.last + 1 ∧ (doS s (cE 3 n)).max = s.max ∧ (doS s (cE 3 n)).live = endL s.live n ∧ (doS s (cE 3 n)).closed = false ∧ (doS s (cE 3 n)).pages.length = s.pages.length := by
  obtain ⟨e1, e2⟩ := do_end_r h.cl (cE 3 n) (Or.inl rfl)
  rw [e1, e2]
  have hf : findL s.live (cE 3 n).txn = some (n, st, [(k, b)]) := h.fd
  have hcl : ¬ clash { s with live := endL s.live n } st [(k, b)] = true := by
    rw [clash_one]
    have := (atV_mem (ok.page h0 h1) ok.lo).2
    simp only [decide_eq_true_eq]
    show ¬ st < (atV (s.page k) s.last).ts
    omega
  have hne : ¬ s.last = s.max := by omega
  have hx : ¬ [(k, b)] = ([] : List (Int × List Int)) := by simp
  have er : endR s (cE 3 n) = commitR { s with live := endL s.live n } st [(k, b)] := by unfold endR; rw [hf]; rfl
  have es : endS s (cE 3 n) = commitS { s with live := endL s.live n } st [(k, b)] := by unfold endS; rw [hf]; rfl
  rw [er, es]
  unfold commitR commitS
  rw [if_neg hx, if_neg hne, if_neg hcl, if_neg hx, if_neg hne, if_neg hcl]
  refine ⟨rfl, ?_, rfl, rfl, rfl, h.cl, more_length _ _ _⟩
  show (more s.pages [(k, b)] (s.last + 1)).getD k.toNat [] = _
  rw [page_more h0 h1]
  have q1 : hasP [(k, b)] k = true := by simp [hasP]
  have q2 : atP [(k, b)] k = b := by simp [atP]
  rw [if_pos q1, q2]
theorem has_refused {s : St} {n st k : Int} {b : List Int} (h : Has s n st [(k, b)]) (hne : ¬ s.last = s.max) (hc : st < (atV (s.page k) s.last).ts) : doR s (cE 3 n) = Rep.fail 7 ∧ doS s (cE 3 n) = { s with live := endL s.live n } := by
  obtain ⟨e1, e2⟩ := do_end_r h.cl (cE 3 n) (Or.inl rfl)
  rw [e1, e2]
  have hf : findL s.live (cE 3 n).txn = some (n, st, [(k, b)]) := h.fd
  have hcl : clash { s with live := endL s.live n } st [(k, b)] = true := by
    rw [clash_one]
    exact decide_eq_true hc
  have hx : ¬ [(k, b)] = ([] : List (Int × List Int)) := by simp
  have er : endR s (cE 3 n) = commitR { s with live := endL s.live n } st [(k, b)] := by unfold endR; rw [hf]; rfl
  have es : endS s (cE 3 n) = commitS { s with live := endL s.live n } st [(k, b)] := by unfold endS; rw [hf]; rfl
  rw [er, es]
  unfold commitR commitS
  rw [if_neg hx, if_neg hne, if_pos hcl, if_neg hx, if_neg hne, if_pos hcl]
  exact ⟨rfl, rfl⟩
/-- Calls that are done of a list: those of a kind below CClose. -/
def aheadS (s : St) (cs : List Cal) : St := cs.foldl (fun s c => if c.kind < 7 then doS s c else s) s
theorem aheadS_snoc (s : St) (cs : List Cal) (c : Cal) : aheadS s (cs ++ [c]) = if c.kind < 7 then doS (aheadS s cs) c else aheadS s cs := by simp [aheadS]
theorem doS_same (s : St) (c : Cal) (hk : c.kind < 7) : (doS s c).pages.length = s.pages.length ∧ (doS s c).max = s.max ∧ s.last ≤ (doS s c).last ∧ (doS s c).last ≤ s.last + 1 ∧ (doS s c).closed = s.closed := by
  by_cases hp : (0 : Int) < s.pages.length
  · have := doS_keeps s c (n := c.txn + 1) (k := 0) (ts := 0) (by omega) hk (Int.le_refl _) hp
    exact ⟨this.len, this.max, this.lo, this.hi, this.cl⟩
  · unfold doS
    split
    · exact ⟨rfl, rfl, Int.le_refl _, by omega, rfl⟩
    · split
      · unfold beginS
        split
        · exact ⟨rfl, rfl, Int.le_refl _, by show s.last ≤ s.last + 1; omega, rfl⟩
        · exact ⟨rfl, rfl, Int.le_refl _, by omega, rfl⟩
      · split
        · rcases useS_is s c with e | ⟨ws, e⟩
          · rw [e]; exact ⟨rfl, rfl, Int.le_refl _, by omega, rfl⟩
          · rw [e]; exact ⟨rfl, rfl, Int.le_refl _, by show s.last ≤ s.last + 1; omega, rfl⟩
        · split
          · rcases endS_is s c with e | e | ⟨a, ws, e⟩
            · rw [e]; exact ⟨rfl, rfl, Int.le_refl _, by omega, rfl⟩
            · rw [e]; exact ⟨rfl, rfl, Int.le_refl _, by show s.last ≤ s.last + 1; omega, rfl⟩
            · rw [e]
              obtain ⟨q1, q2, q3, q4, q5, q6, q7⟩ := commitS_keep { s with live := endL s.live c.txn } a ws
              exact ⟨q1, q2, q3, q4, q5⟩
          · split
            · rename_i h7
              exact absurd h7 (by omega)
            · exact ⟨rfl, rfl, Int.le_refl _, by omega, rfl⟩
/-- What holds of a machine behind some calls. -/
structure Ahead (n : Nat) (mx : Int) (k : Nat) (s : St) : Prop where
  len : s.pages.length = n
  max : s.max = mx
  last : s.last ≤ k
  begun : s.begun ≤ k
  cl : s.closed = false
theorem Ahead.start (n : Nat) (mx : Int) : Ahead n mx 0 (newS n mx) := ⟨by simp [newS], rfl, Int.le_refl _, Int.le_refl _, rfl⟩
theorem Ahead.step {n : Nat} {mx : Int} {k : Nat} {s : St} (h : Ahead n mx k s) (c : Cal) (hk : c.kind < 7) : Ahead n mx (k + 1) (doS s c) := by
  obtain ⟨q1, q2, q3, q4, q5⟩ := doS_same s c hk
  have := doS_begun s c
  have h1 := h.last
  have h2 := h.begun
  exact ⟨q1.trans h.len, q2.trans h.max, by omega, by omega, q5.trans h.cl⟩
theorem Ahead.mono {n : Nat} {mx : Int} {k k' : Nat} {s : St} (h : Ahead n mx k s) (hk : k ≤ k') : Ahead n mx k' s := ⟨h.len, h.max, by have := h.last; omega, by have := h.begun; omega, h.cl⟩
end Go.Proofs.Ytpncmbkklkfmnaa
namespace Go.Proofs.Ytpncmbkklkfmnaa
open Go.ChangeShapes Go.WideShapes Go.ChangeAt Go.RowKit
open Go.Deep Go.Maps
set_option linter.unusedVariables false
set_option linter.unusedSimpArgs false
theorem zero35 (w : World) : (zeroValue 35).run Try.prog w = .ok (.agg #[.int .u8 0, .int .u64 0, .int .u16 0, .int .i64 0, .string ⟨#[]⟩]) w := (zero_of_info (P := Try.prog) (t := 35) (v := .agg #[.int .u8 0, .int .u64 0, .int .u16 0, .int .i64 0, .string ⟨#[]⟩]) (n := 5) (by kernel_rfl)).1 w
theorem Cal.one (c : Cal) : c.arr.all (·.oneCell') = true := by simp [Cal.arr, Value.oneCell']
theorem Cal.size (c : Cal) : c.arr.size = 5 := rfl
theorem Cal.cells_arr (c : Cal) : c.cells.toArray = c.arr := rfl
theorem cR_ok {n k : Int} (h : 0 ≤ n ∧ n ≤ 1000000) (h2 : 0 ≤ k ∧ k ≤ 65535) : (cR n k).Ok := ⟨by show (0 : Int) ≤ 1 ∧ (1 : Int) ≤ 255; decide, by show 0 ≤ n ∧ n ≤ _; omega, h2, by show (-9223372036854775808 : Int) ≤ 0 ∧ (0 : Int) ≤ 9223372036854775807; decide⟩
theorem cW_ok {n k : Int} (t : ByteArray) (h : 0 ≤ n ∧ n ≤ 1000000) (h2 : 0 ≤ k ∧ k ≤ 65535) : (cW n k t).Ok := ⟨by show (0 : Int) ≤ 2 ∧ (2 : Int) ≤ 255; decide, by show 0 ≤ n ∧ n ≤ _; omega, h2, by show (-9223372036854775808 : Int) ≤ 0 ∧ (0 : Int) ≤ 9223372036854775807; decide⟩
theorem cE_ok {d n : Int} (hd : d = 3 ∨ d = 4) (h : 0 ≤ n ∧ n ≤ 1000000) : (cE d n).Ok := ⟨by show 0 ≤ d ∧ d ≤ 255; omega, by show 0 ≤ n ∧ n ≤ _; omega, by show (0 : Int) ≤ 0 ∧ (0 : Int) ≤ 65535; decide, by show (-9223372036854775808 : Int) ≤ 0 ∧ (0 : Int) ≤ 9223372036854775807; decide⟩
theorem load_any_g {P : Program} {ops : Array Oper} {rest : List Oper} {op : Oper} {a : Act} {w : World} {Q : Exit → Act → World → Prop} (hgd : Region.wanted op (yielded ops a.tmps) = true) (ty : TypeId) (x : Operand) (ho : op.op = .load ty x)
    (p : Addr) (hx : a.eval x = .pointer (some p)) (cs : List Value) (d : TypeDesc) (hc : ∀ j v, cs[j]? = some v → w.cell? (p.add j) = some v)
    (hu : P.underlying ty = some d) (hd : d.isRow = true) (hi : (P.info? ty).map (·.size) = some cs.length)
    (h : wpList P ops Q rest (a.put op.dst (.agg cs.toArray)) w) : wpList P ops Q (op :: rest) a w := by
  refine BigFrame.wpList_want hgd fun K hK => ?_
  have hl : (loadCells p cs.length).run P w = .ok cs.toArray w := run_loadCells_list (P := P) w p cs hc
  have hrun : (loadVar ty p).run P w = .ok (.agg cs.toArray) w := by
    cases hq : P.info? ty with
    | none => simp [hq] at hi
    | some i =>
      have hs : i.size = cs.length := by simpa [hq] using hi
      have hagg : (isAgg ty).run P w = .ok true w := by
        unfold isAgg
        rw [Sem.run_bind, run_underlying hu w]
        cases d <;> simp_all
      simp [loadVar, Sem.run_bind, hagg, sizeOf, typeInfo, hq, hs, hl]
  unfold Oper.wp execOp
  simp only [ho, hx, Instr.loadAt, Instr.sureAddr, Sem.run_bind, Sem.run_pure, Result.andThen_ok, hrun]
  exact hK _ _ h
theorem rbody_cells {W : World} {X : Nat} {R : Rep} {A : Array Value} (e : R.arr = A) (r : Row W X A 40) : ∀ j u, (R.body.map (Value.int .u8))[j]? = some u → W.cell? ((⟨X, 3, none⟩ : Addr).add j) = some u := fun j u h => by
  rw [Addr.add_mid]
  refine row_at r (3 + j) _ ?_
  rw [← e]
  unfold Rep.arr Rep.cells
  rw [List.getElem?_toArray, Nat.add_comm]
  exact h
theorem vbody_cells {W : World} {X : Nat} {R : Ver} {A : Array Value} (e : R.arr = A) (r : Row W X A 44) : ∀ j u, (R.body.map (Value.int .u8))[j]? = some u → W.cell? ((⟨X, 1, none⟩ : Addr).add j) = some u := fun j u h => by
  rw [Addr.add_mid]
  refine row_at r (1 + j) _ ?_
  rw [← e]
  unfold Ver.arr Ver.cells
  rw [List.getElem?_toArray, Nat.add_comm]
  exact h
theorem cell_old {w w' : World} {B : Nat} {p : Addr} {u : Value} (h : w.cell? p = some u) (hb : Below B w w') (hp : p.block < B) : w'.cell? p = some u := by
  rw [← h]; exact World.cell?_of_block (hb.block _ hp)
end Go.Proofs.Ytpncmbkklkfmnaa
