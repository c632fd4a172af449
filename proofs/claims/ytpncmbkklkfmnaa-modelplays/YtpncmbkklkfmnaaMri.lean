/-
  Proved here: what rises: plain facts; numbers in own memory, and has.
-/
import Derived.Test.YtpncmbkklkfmnaaJm
namespace Go.Proofs.Ytpncmbkklkfmnaa
open Go.ChangeShapes Go.WideShapes Go.ChangeAt Go.RowKit
open Go.Deep Go.Maps
set_option linter.unusedVariables false
set_option linter.unusedSimpArgs false
set_option maxRecDepth 20000


/-- Who has written is on the list. -/
structure RI (s : St) (L : List Int) : Prop where
  iff : ∀ t ∈ s.live, t.1 ∈ L ↔ t.2.2 ≠ []
  le : ∀ x ∈ L, x ≤ s.begun
def nextL (s : St) (c : Cal) (L : List Int) : List Int := if (doR s c).err = 0 ∧ c.kind = 2 then L ++ [c.txn] else L
theorem putP_ne (ws : List (Int × List Int)) (k : Int) (b : List Int) : putP ws k b ≠ [] := fun e => by
  have : (k, b) ∈ putP ws k b := putP_mem.2 (Or.inl rfl)
  rw [e] at this
  cases this
theorem endL_mem {l : List Live} {k : Int} {t : Live} (h : t ∈ endL l k) : t ∈ l := (List.mem_filter.1 h).1
theorem live_one {s : St} (ok : s.Ok) {t u : Live} (ht : t ∈ s.live) (hu : u ∈ s.live) (e : t.1 = u.1) : t = u := by
  have h := ok.keys
  generalize s.live = L at h ht hu
  induction L with
  | nil => cases ht
  | cons y r ih =>
    obtain ⟨h1, h2⟩ := List.pairwise_cons.1 h
    rcases List.mem_cons.1 ht with rfl | ht' <;> rcases List.mem_cons.1 hu with rfl | hu'
    · rfl
    · have := h1 u hu'; omega
    · have := h1 t ht'; omega
    · exact ih h2 ht' hu'
theorem RI.begin {s : St} {L : List Int} (h : RI s L) (ok : s.Ok) : RI (beginS s) L := by
  unfold beginS
  split
  · refine ⟨fun t ht => ?_, fun x hx => by have := h.le x hx; show x ≤ s.begun + 1; omega⟩
    rcases List.mem_append.1 ht with q | q
    · exact h.iff t q
    · simp at q
      subst q
      constructor
      · intro hm
        have := h.le _ hm
        simp at this
        omega
      · intro hm
        exact absurd rfl hm
  · exact h
theorem RI.sub {s s' : St} {L : List Int} (h : RI s L) (hl : ∀ t ∈ s'.live, t ∈ s.live) (hb : s'.begun = s.begun) : RI s' L := ⟨fun t ht => h.iff t (hl t ht), fun x hx => by rw [hb]; exact h.le x hx⟩
theorem RI.step {s : St} {L : List Int} (h : RI s L) (ok : s.Ok) (c : Cal) : RI (doS s c) (nextL s c L) := by
  have no : ∀ (h2 : ¬ ((doR s c).err = 0 ∧ c.kind = 2)), nextL s c L = L := fun h2 => if_neg h2
  cases hc : s.closed with
  | true =>
    have es : doS s c = s := if_pos hc
    have er : doR s c = Rep.fail 12 := if_pos hc
    rw [es, no (by rw [er]; rintro ⟨q, _⟩; cases q)]
    exact h
  | false =>
    by_cases h12 : c.kind = 1 ∨ c.kind = 2
    · obtain ⟨er, es⟩ := do_use_r hc c h12
      rw [es]
      have fin : ∀ r : Rep, useR s c = r → ¬ r.err = 0 → nextL s c L = L := fun r q1 q2 => no (by rw [er, q1]; exact fun z => q2 z.1)
      by_cases hb : badU s c = true
      · have e1 : useR s c = Rep.fail 1 := if_pos hb
        have e2 : useS s c = s := if_pos hb
        rw [fin _ e1 (by intro q; cases q), e2]
        exact h
      · cases hf : findL s.live c.txn with
        | none =>
          have e1 : useR s c = Rep.fail 9 := by unfold useR; rw [if_neg hb, hf]
          have e2 : useS s c = s := by unfold useS; rw [if_neg hb, hf]
          rw [fin _ e1 (by intro q; cases q), e2]
          exact h
        | some t =>
          obtain ⟨ht, hk⟩ := findL_some hf
          by_cases h1 : c.kind = 1
          · have e2 : useS s c = s := by unfold useS; rw [if_neg hb, hf]; exact if_pos h1
            rw [no (by omega), e2]
            exact h
          · by_cases hfu : full t.2.2 c.page = true
            · have e1 : useR s c = Rep.fail 10 := by
                unfold useR; rw [if_neg hb, hf]
                show (if c.kind = 1 then _ else if full t.2.2 c.page = true then _ else _) = _
                rw [if_neg h1, if_pos hfu]
              have e2 : useS s c = s := by
                unfold useS; rw [if_neg hb, hf]
                show (if c.kind = 1 then _ else if full t.2.2 c.page = true then _ else _) = _
                rw [if_neg h1, if_pos hfu]
              rw [fin _ e1 (by intro q; cases q), e2]
              exact h
            · have h2 : c.kind = 2 := by omega
              have e1 : useR s c = Rep.zero := by
                unfold useR; rw [if_neg hb, hf]
                show (if c.kind = 1 then _ else if full t.2.2 c.page = true then _ else _) = _
                rw [if_neg h1, if_neg hfu]
              have e2 : ∃ ws, ws ≠ [] ∧ useS s c = { s with live := setL s.live c.txn ws } := by
                unfold useS; rw [if_neg hb, hf]
                refine ⟨putP t.2.2 c.page (wrote (seenV t.2.2 t.2.1 (s.page c.page) c.page).body c.off c.str), putP_ne _ _ _, ?_⟩
                show (if c.kind = 1 then _ else if full t.2.2 c.page = true then _ else _) = _
                rw [if_neg h1, if_neg hfu]
              obtain ⟨ws, hws, e2⟩ := e2
              have e3 : nextL s c L = L ++ [c.txn] := if_pos ⟨by rw [er, e1]; rfl, h2⟩
              rw [e2, e3]
              refine ⟨fun u hu => ?_, fun x hx => ?_⟩
              · obtain ⟨y, hy, rfl⟩ := List.mem_map.1 hu
                by_cases e : y.1 = c.txn
                · rw [if_pos e]
                  constructor
                  · intro _
                    exact hws
                  · intro _
                    exact List.mem_append_right _ (by simp [e])
                · rw [if_neg e]
                  have := h.iff y hy
                  rw [List.mem_append]
                  constructor
                  · rintro (q | q)
                    · exact this.1 q
                    · simp at q; exact absurd q e
                  · intro q
                    exact Or.inl (this.2 q)
              · rcases List.mem_append.1 hx with q | q
                · exact h.le x q
                · simp at q
                  subst q
                  have := ok.tx t ht
                  show c.txn ≤ s.begun
                  omega
    · rw [no (by omega)]
      by_cases h34 : c.kind = 3 ∨ c.kind = 4
      · rw [(do_end_r hc c h34).2]
        rcases endS_is s c with e | e | ⟨a, ws, e⟩
        · rw [e]; exact h
        · rw [e]; exact h.sub (fun t ht => endL_mem ht) rfl
        · rw [e]
          obtain ⟨_, _, _, _, _, q6, q7⟩ := commitS_keep { s with live := endL s.live c.txn } a ws
          exact h.sub (fun t ht => by rw [q6] at ht; exact endL_mem ht) q7
      · by_cases h0 : c.kind = 0
        · have es : doS s c = beginS s := by unfold doS; rw [hc]; simp [h0]
          rw [es]
          exact h.begin ok
        · have hl : (doS s c).live = s.live ∧ (doS s c).begun = s.begun := by
            unfold doS
            rw [hc]
            simp only [Bool.false_eq_true, if_false, h0, h12, h34]
            split <;> exact ⟨rfl, rfl⟩
          exact h.sub (fun t ht => by rw [hl.1] at ht; exact ht) hl.2
/-- What the machine's last timestamp does. -/
theorem rises_begin {s : St} (hc : s.closed = false ∨ s.closed = true) {c : Cal} (hk : c.kind = 0) (he : (doR s c).err = 0) : (doR s c).ts = s.last := by
  cases hcl : s.closed with
  | true =>
    have er : doR s c = Rep.fail 12 := if_pos hcl
    rw [er] at he; cases he
  | false =>
    have er : doR s c = beginR s := by unfold doR; rw [hcl]; simp [hk]
    rw [er] at he ⊢
    unfold beginR at he ⊢
    split
    · rfl
    · rename_i h
      rw [if_neg h] at he
      cases he
theorem rises_last {s : St} {c : Cal} (hk : ¬ c.kind = 3) : (doS s c).last = s.last := by
  unfold doS
  split
  · rfl
  · split
    · unfold beginS; split <;> rfl
    · split
      · rcases useS_is s c with e | ⟨ws, e⟩
        · rw [e]
        · rw [e]
      · split
        · rename_i h34
          have h4 : c.kind = 4 := by omega
          unfold endS
          cases findL s.live c.txn with
          | none => rfl
          | some t =>
            show (if c.kind = 4 then _ else commitS _ _ _ : St).last = _
            rw [if_pos h4]
        · split <;> rfl
theorem doS_max (s : St) (c : Cal) : (doS s c).max = s.max := by
  by_cases hk : c.kind < 7
  · exact (doS_same s c hk).2.1
  · unfold doS
    split
    · rfl
    · rw [if_neg (by omega), if_neg (by omega), if_neg (by omega)]
      split <;> rfl
theorem rises_commit {s : St} {L : List Int} (h : RI s L) (ok : s.Ok) {c : Cal} (hk : c.kind = 3) (he : (doR s c).err = 0) :
    (c.txn ∈ L → (doR s c).ts = s.last + 1 ∧ (doS s c).last = s.last + 1) ∧ (c.txn ∉ L → (doR s c).ts ≤ s.last ∧ (doS s c).last = s.last) := by
  cases hcl : s.closed with
  | true =>
    have er : doR s c = Rep.fail 12 := if_pos hcl
    rw [er] at he; cases he
  | false =>
    obtain ⟨er, es⟩ := do_end_r hcl c (Or.inl hk)
    rw [er] at he
    rw [er, es]
    unfold endR at he ⊢
    unfold endS
    cases hf : findL s.live c.txn with
    | none => rw [hf] at he; cases he
    | some t =>
      rw [hf] at he
      obtain ⟨ht, htk⟩ := findL_some hf
      have hiff := h.iff t ht
      rw [htk] at hiff
      have h4 : ¬ c.kind = 4 := by omega
      simp only [if_neg h4] at he ⊢
      have hst := ok.tx t ht
      by_cases hw : t.2.2 = []
      · refine ⟨fun q => absurd hw (hiff.1 q), fun _ => ?_⟩
        unfold commitR commitS
        rw [if_pos hw, if_pos hw]
        exact ⟨hst.2.2.2.1, rfl⟩
      · refine ⟨fun _ => ?_, fun q => absurd (hiff.2 hw) q⟩
        unfold commitR at he ⊢
        unfold commitS
        rw [if_neg hw] at he
        rw [if_neg hw, if_neg hw]
        split
        · rename_i q
          rw [if_pos q] at he
          cases he
        · rename_i q
          rw [if_neg q] at he
          split
          · rename_i q2
            rw [if_pos q2] at he
            cases he
          · exact ⟨rfl, rfl⟩
theorem doR_len {s : St} (ok : s.Ok) {c : Cal} (hc : c.Ok) : (doR s c).body.length = 64 := by
  unfold doR
  split
  · exact zs_length _
  · split
    · exact beginR_len _
    · split
      · exact useR_len ok hc
      · split
        · exact endR_len _ _
        · split <;> exact zs_length _
theorem doR_ts {s : St} (ok : s.Ok) {c : Cal} (hc : c.Ok) : 0 ≤ (doR s c).ts ∧ (doR s c).ts ≤ 4294967295 := by
  have hl := ok.lo
  have hi := ok.hi
  have hm := ok.mx
  unfold doR
  split
  · exact ⟨Int.le_refl _, by show (0 : Int) ≤ _; omega⟩
  · split
    · unfold beginR
      split
      · exact ⟨hl, by show s.last ≤ _; omega⟩
      · exact ⟨Int.le_refl _, by show (0 : Int) ≤ _; omega⟩
    · split
      · unfold useR
        split
        · exact ⟨Int.le_refl _, by show (0 : Int) ≤ _; omega⟩
        · rename_i hb
          cases hf : findL s.live c.txn with
          | none => exact ⟨Int.le_refl _, by show (0 : Int) ≤ _; omega⟩
          | some t =>
            show 0 ≤ (if c.kind = 1 then Rep.mk 0 0 _ _ else if full t.2.2 c.page = true then Rep.fail 10 else Rep.zero).ts ∧ (if c.kind = 1 then Rep.mk 0 0 _ _ else if full t.2.2 c.page = true then Rep.fail 10 else Rep.zero).ts ≤ 4294967295
            split
            · have hp : c.page < s.pages.length := by
                unfold badU at hb
                by_cases q : c.page < s.pages.length
                · exact q
                · simp [q] at hb
              have ht := ok.tx t (findL_some hf).1
              have q := seenV_ok ht.2.2.2.2 (ok.page hc.p.1 hp) ht.2.2.1 (by omega) c.page
              exact ⟨q.lo, q.hi⟩
            · split <;> exact ⟨Int.le_refl _, by show (0 : Int) ≤ _; omega⟩
      · split
        · unfold endR
          cases hf : findL s.live c.txn with
          | none => exact ⟨Int.le_refl _, by show (0 : Int) ≤ _; omega⟩
          | some t =>
            have ht := ok.tx t (findL_some hf).1
            show 0 ≤ (if c.kind = 4 then Rep.zero else commitR _ _ _).ts ∧ (if c.kind = 4 then Rep.zero else commitR _ _ _).ts ≤ 4294967295
            split
            · exact ⟨Int.le_refl _, by show (0 : Int) ≤ _; omega⟩
            · unfold commitR
              split
              · exact ⟨ht.2.2.1, by show t.2.1 ≤ _; omega⟩
              · split
                · exact ⟨Int.le_refl _, by show (0 : Int) ≤ _; omega⟩
                · split
                  · exact ⟨Int.le_refl _, by show (0 : Int) ≤ _; omega⟩
                  · rename_i q _
                    have q' : ¬ s.last = s.max := q
                    exact ⟨by show (0 : Int) ≤ s.last + 1; omega, by show s.last + 1 ≤ _; omega⟩
        · split <;> exact ⟨Int.le_refl _, by show (0 : Int) ≤ _; omega⟩
/-- Numbers in own memory, apart from the machine. -/
structure Num (w0 : World) (F : Nat → Prop) (w : World) (v : Value) (L : List Int) : Prop where
  own : w.ownsRow w0.heap.size 32 1 v L.length (L.map (Value.int .u64))
  far : ∀ k, v.ownBlock = some k → ¬ F k
theorem Num.nil (w0 : World) (F : Nat → Prop) (w : World) : Num w0 F w (.slice none 0 0) [] := ⟨⟨rfl, Or.inl ⟨rfl, rfl⟩⟩, fun k h => by cases h⟩
theorem Num.step {w0 w w' : World} {F F' : Nat → Prop} {v : Value} {L : List Int} (h : Num w0 F w v L) (o : Off F w w') (f : ∀ k, k < w.heap.size → F' k → F k) : Num w0 F' w' v L :=
  ⟨ownsRow_off h.own o (fun k hk => h.far k hk), fun k hk q => h.far k hk (f k (World.ownsRow.lt h.own k hk).2 q)⟩
theorem Num.below {w0 w w' : World} {F : Nat → Prop} {v : Value} {L : List Int} (h : Num w0 F w v L) (hb : Below w.heap.size w w') : Num w0 F w' v L :=
  ⟨ownsRow_off (F := fun _ => False) h.own (Off.of_below hb) (fun _ _ q => q), h.far⟩
theorem Num.form {w0 w : World} {F : Nat → Prop} {v : Value} {L : List Int} (h : Num w0 F w v L) : ∃ (oa : Option Addr) (cap : Nat), v = .slice oa L.length cap ∧ ∀ i, i < L.length → ∃ a : Addr, oa = some a ∧ w.cell? (a.add i) = some (.int .u64 (L.getD i 0)) := by
  rcases h.own.2 with ⟨e, h0⟩ | ⟨g, cap, cur, e, _⟩
  · exact ⟨none, 0, by rw [e, h0], fun i hi => by omega⟩
  · refine ⟨some ⟨g, 0, none⟩, cap, e, fun i hi => ⟨⟨g, 0, none⟩, rfl, ?_⟩⟩
    have h2 := h.own
    rw [e] at h2
    rw [Addr.add_mid, Nat.zero_add, h2.cellAt i (by omega), List.getElem?_map, List.getElem?_eq_getElem hi]
    simp [List.getD, hi]
theorem has_loop (v : Value) (oa : Option Addr) (cap : Nat) (L : List Int) (x : Int) (w : World) (hv : v = .slice oa L.length cap) (hl : L.length ≤ 1000) (hc : ∀ i, i < L.length → ∃ a : Addr, oa = some a ∧ w.cell? (a.add i) = some (.int .u64 (L.getD i 0))) :
    Calls Try.prog 18 #[v, .int .u64 x] w fun r w' => r = .returned (.bool (decide (x ∈ L))) ∧ w' = w := by
  subst hv
  obtain ⟨b, HB⟩ : ∃ b, Hid (decide (x ∈ L) = b) := ⟨_, rfl⟩
  rw [HB.out]
  have HC : Hid (∀ i, i < L.length → ∃ a : Addr, oa = some a ∧ w.cell? (a.add i) = some (.int .u64 (L.getD i 0))) := hc
  obtain ⟨n, HN⟩ : ∃ n, Hid (L.length = n) := ⟨_, rfl⟩
  rw [HN.out] at HC hl ⊢
  clear hc
  obtain ⟨PP, HPP⟩ : ∃ PP : Ending → World → Prop, Hid (PP = fun r w' => r = .returned (.bool b) ∧ w' = w) := ⟨_, rfl⟩
  rw [← HPP.out]
  go_enter Try.func18, Try.ntmps18
  go_upto_region 2 with fail
  go_loopw [6, 9] (fun _ i wr => ∃ j : Nat, i = .int .i64 j ∧ j ≤ n ∧ wr = w ∧ Hid (∀ i, i < j → ¬ L.getD i 0 = x)) (fun _ i _ => n - (intOf i).toNat)
  case atStart => exact ⟨0, rfl, Nat.zero_le _, rfl, fun i hi => by omega⟩
  case round =>
    obtain ⟨j, rfl, hj, hww, HJ⟩ := hrel
    have hw1 : IntKind.i64.wrap ((j : Int) + 1) = ((j + 1 : Nat) : Int) := by rw [IntKind.wrap_i64]; omega
    by_cases hlt : (j : Int) < n
    · obtain ⟨a, rfl, hcell⟩ := HC.out j (by omega)
      rw [← hww] at hcell
      obtain ⟨y, HY⟩ : ∃ y, Hid (L.getD j 0 = y) := ⟨_, rfl⟩
      rw [HY.out] at hcell
      have HWW : Hid (wr = w) := hww
      clear hww
      by_cases hx : y = x
      · have hb : (y == x) = true := by simpa using hx
        have HT : Hid (b = true) := by
          show _ = _
          rw [← HB.out]
          refine decide_eq_true ?_
          have hjl : j < L.length := by rw [HN.out]; omega
          rw [← hx, ← HY.out]
          simp [List.getD, hjl]
        clear hx
        go_wp2
        rw [HPP.out]
        exact ⟨by rw [HT.out] <;> rfl, HWW.out⟩
      · have hb : (y == x) = false := by simpa using hx
        have HJ2 : Hid (∀ i, i < j + 1 → ¬ L.getD i 0 = x) := fun i hi => by
          by_cases e : i = j
          · rw [e, HY.out]; exact hx
          · exact HJ.out i (by omega)
        clear hx HJ
        go_wp2
        go_roundw
        case rel => exact ⟨j + 1, by first | rfl | simp, by omega, HWW.out, HJ2⟩
        case measure => simp only [intOf]; omega
    · have HT : Hid (b = false) := by
        show _ = _
        rw [← HB.out]
        refine decide_eq_false fun hm => ?_
        obtain ⟨i, hi, e⟩ := List.getElem_of_mem hm
        exact HJ.out i (by have := HN.out; omega) (by simp [List.getD, hi, e])
      have HWW : Hid (wr = w) := hww
      clear hww HJ
      go_wp2
      rw [HPP.out]
      exact ⟨by rw [HT.out] <;> rfl, HWW.out⟩
theorem info32 : (Try.prog.info? 32).map (fun i => (i.zero, i.size, i.bytes)) = some (some (.int .u64 0), 1, 8) := by kernel_rfl
/-- One number more. -/
theorem Num.snoc {w0 w w2 : World} {F : Nat → Prop} {v : Value} {L : List Int} (h : Num w0 F w v L) (hlt : ∀ k, F k → k < w.heap.size) {x : Int} {g cap : Nat} (own : w2.ownsRow w0.heap.size 32 1 (.slice (some ⟨g, 0, none⟩) (L.length + 1) cap) (L.length + 1) (L.map (Value.int .u64) ++ [.int .u64 x])) (hat : v.ownBlock = some g ∨ w.heap.size ≤ g) :
    Num w0 F w2 (.slice (some ⟨g, 0, none⟩) (L.length + 1) cap) (L ++ [x]) := by
  refine ⟨?_, fun k hk q => ?_⟩
  · have e : (L ++ [x]).length = L.length + 1 := by simp
    have e2 : (L ++ [x]).map (Value.int .u64) = L.map (Value.int .u64) ++ [.int .u64 x] := by simp
    rw [e, e2]
    exact own
  · cases hk
    rcases hat with h2 | h2
    · exact h.far g h2 q
    · have := hlt g q
      omega
end Go.Proofs.Ytpncmbkklkfmnaa
