/-
  Proved here: what the document's machine answers is doR.
-/
import Derived.Test.YtpncmbkklkfmnaaJc
import Derived.Test.YtpncmbkklkfmnaaJd
import Derived.Test.YtpncmbkklkfmnaaTzlen
import Derived.Test.YtpncmbkklkfmnaaJe
import Derived.Test.YtpncmbkklkfmnaaTzbegin
import Derived.Test.YtpncmbkklkfmnaaJf
import Derived.Test.YtpncmbkklkfmnaaJg
import Derived.Test.YtpncmbkklkfmnaaJh
import Derived.Test.YtpncmbkklkfmnaaTzread
import Derived.Test.YtpncmbkklkfmnaaTzwrote
import Derived.Test.YtpncmbkklkfmnaaTzmost
import Derived.Test.YtpncmbkklkfmnaaTzwrite
import Derived.Test.YtpncmbkklkfmnaaTzts
import Derived.Test.YtpncmbkklkfmnaaTzclash
import Derived.Test.YtpncmbkklkfmnaaTzdone
import Derived.Test.YtpncmbkklkfmnaaTzclosed
import Derived.Test.YtpncmbkklkfmnaaMrx
namespace Go.Proofs.Ytpncmbkklkfmnaa
open Go.ChangeShapes Go.WideShapes Go.ChangeAt Go.RowKit
open Go.Deep Go.Maps
set_option linter.unusedVariables false
set_option linter.unusedSimpArgs false
set_option maxRecDepth 20000


theorem wr_same {ds : List Dn} {n k : Int} {b : List Int} (h : (wrR' ds n k b).2 = false) : (wrR' ds n k b).1 = b := by
  unfold wrR' at h ⊢
  have gen : ∀ (l : List Dn) (p : List Int × Bool), (l.foldl (wrS n k) p).2 = false → l.foldl (wrS n k) p = p := by
    intro l
    induction l with
    | nil => intro p _; rfl
    | cons d r ih =>
      intro p hp
      rw [List.foldl_cons] at hp ⊢
      have e := ih _ hp
      rw [e] at hp ⊢
      unfold wrS at hp ⊢
      split
      · rename_i q; rw [if_pos q] at hp; cases hp
      · rfl
  rw [gen _ _ h]
theorem Rel.open_ {s : St} {ds : List Dn} (h : Rel s ds) (hc : s.closed = false) : ∀ d ∈ ds, ¬ (d.c.kind = 7 ∧ d.r.err = 0) := fun d hd q => by
  have := h.cl.2 ⟨d, hd, q⟩
  rw [hc] at this; cases this
theorem pg_in {s : St} {k : Int} (h : k < s.pages.length) : s.pg k = s.page k := if_pos h
set_option maxHeartbeats 1000000 in
theorem answer_ref {w0 w : World} {r n : Nat} {mx : Int} {v : Value} {ds : List Dn} {s : St} (h : RM w0 w r n mx v ds) (hn : s.pages.length = n) (hm : s.max = mx) (B : Both s ds) (ok : s.Ok) (hts : ∀ d ∈ ds, 0 ≤ d.r.ts) (c : Cal) (hc : c.Ok) : Calls Try.prog 23 #[.pointer (some ⟨r, 0, none⟩), .agg c.arr] w fun e w' => e = .returned (.agg (doR s c).arr) ∧ Below w.heap.size w w' := by
  have R := B.rel
  have hlen16 := ok.n1
  have hp0 := hc.p.1
  have bel : ∀ W, Below w.heap.size w W → RM w0 W r n mx v ds := fun W hb => h.below hb
  unfold doR
  cases hcl : s.closed with
  | true => rw [if_pos rfl]; exact ans_closed h c hc (R.cl.1 hcl)
  | false =>
  rw [if_neg (by simp)]
  have O := B.opn hcl
  have hno := R.open_ hcl
  have hls : ∀ W, Below w.heap.size w W → Calls Try.prog 15 #[.pointer (some ⟨r, 0, none⟩)] W fun e w' => e = .returned (.int .u32 s.last) ∧ Below W.heap.size W w' := fun W hb => by have := last_ref (bel W hb); rw [R.ls] at this; exact this
  have hbg : ∀ W, Below w.heap.size w W → Calls Try.prog 32 #[.pointer (some ⟨r, 0, none⟩), .int .u64 c.txn] W fun e w' => e = .returned (.tuple #[.int .u32 (bgR ds c.txn).1, .bool (bgR ds c.txn).2]) ∧ Below W.heap.size W w' := fun W hb => begun_ref (bel W hb) c.txn
  have h33 : ∀ W, Below w.heap.size w W → Calls Try.prog 33 #[.pointer (some ⟨r, 0, none⟩), .int .u64 c.txn] W fun e w' => e = .returned (.int .i64 (cntW ds c.txn n : Nat)) ∧ Below W.heap.size W w' := fun W hb => count_ref (bel W hb) R.fit (by omega) c.txn
  have hcn : cntW ds c.txn n ≤ 16 := Nat.le_trans (cntW_le _ _ _) (by omega)
  by_cases k0 : c.kind = 0
  · rw [if_pos k0]
    have hlv : ∀ W, Below w.heap.size w W → Calls Try.prog 31 #[.pointer (some ⟨r, 0, none⟩)] W fun e w' => e = .returned (.tuple #[.int .i64 (s.live.length : Int), .int .u64 s.begun]) ∧ Below W.heap.size W w' := fun W hb => by have := live_ref (bel W hb); rw [live_is O] at this; exact this
    have hz : 0 ≤ s.begun ∧ s.begun < 1000000 := by
      have h1 := O.cnt
      have h2 : (begs ds).length ≤ ds.length := by unfold begs; rw [List.length_map]; exact List.length_filter_le _ _
      have h3 := h.few
      omega
    unfold beginR
    by_cases h8 : s.live.length < 8
    · rw [if_pos h8]
      exact ans_begin h c hc hno k0 _ _ hz hlv _ hls (by omega)
    · rw [if_neg h8]
      exact ans_many h c hc hno k0 _ _ hz hlv (by omega)
  rw [if_neg k0]
  by_cases k12 : c.kind = 1 ∨ c.kind = 2
  · rw [if_pos k12]
    unfold useR
    by_cases hpg : c.page < s.pages.length
    · have hp : c.page < n := by omega
      have hp1 : decide (c.page < (s.pages.length : Int)) = true := decide_eq_true hpg
      have ep := pg_in hpg
      obtain ⟨kp, hkp⟩ : ∃ kp : Nat, (kp : Int) = c.page := ⟨c.page.toNat, by omega⟩
      rcases k12 with k | k
      · have hnb : badU s c = false := by unfold badU; rw [hp1]; simp [k]
        rw [hnb, if_neg (by simp)]
        cases hf : findL s.live c.txn with
        | none => exact ans_none1 h c hc hno k hp _ _ hbg (by rw [O.bg, hf]; rfl)
        | some t =>
          have tx := ok.tx t (findL_some hf).1
          have st := O.st _ _ hf
          have ws := O.ws _ _ hf kp (Nat.zero_le _) (by omega)
          rw [hkp] at ws
          dsimp only
          rw [if_pos k]
          have hst0 : 0 ≤ t.2.1 := tx.2.2.1
          have VO : (atV (s.pg c.page) t.2.1).Ok := atV_ok (pg_ok ok hp0) hst0
          have h17 : ∀ W, Below w.heap.size w W → Calls Try.prog 17 #[.pointer (some ⟨r, 0, none⟩), .int .u16 c.page, .int .u32 (bgR ds c.txn).1] W fun e w' => e = .returned (.agg (atV (s.pg c.page) t.2.1).arr) ∧ Below W.heap.size W w' := fun W hb => by
            rw [st.1]
            exact at_ref R ok c.page hp0 hts _ t.2.1 hst0 (Nat.le_refl _) W (bel W hb)
          have h26 := fun W (hb : Below w.heap.size w W) => wrote_ref (bel W hb) R.fit c.txn c.page (atV (s.pg c.page) t.2.1).body VO.wr
          have main := ans_read h c hc hno k hp _ _ hbg (by rw [O.bg, hf]; rfl) _ VO h17 _ _ (wrR_wr R.fit c.txn c.page VO.wr).1 h26
          have hfl : (wrR' ds c.txn c.page (atV (s.pg c.page) t.2.1).body).2 = hasP t.2.2 c.page := by rw [wrR_flag ds _ _ _ (zs 64)]; exact ws.1
          have e : (Rep.mk 0 0 (if (wrR' ds c.txn c.page (atV (s.pg c.page) t.2.1).body).2 = true then (bgR ds c.txn).1 else (atV (s.pg c.page) t.2.1).ts) (wrR' ds c.txn c.page (atV (s.pg c.page) t.2.1).body).1) = ⟨0, 0, (seenV t.2.2 t.2.1 (s.page c.page) c.page).ts, (seenV t.2.2 t.2.1 (s.page c.page) c.page).body⟩ := by
            unfold seenV
            rw [hfl, st.1]
            by_cases hh : hasP t.2.2 c.page = true
            · rw [if_pos hh, if_pos hh, ws.2 hh, ep]
            · rw [if_neg hh, if_neg hh, ← ep, wr_same (by rw [hfl]; simpa using hh)]
          rw [e] at main
          exact main
      · by_cases ho : 0 ≤ c.off ∧ c.off ≤ 64
        · by_cases hl : (c.str.size : Int) ≤ 64 - c.off
          · have hfi : fitsB c.off c.str = true := by simp [fitsB, ho.1, ho.2, hl]
            have hnb : badU s c = false := by unfold badU; rw [hp1, hfi]; simp
            rw [hnb, if_neg (by simp)]
            cases hf : findL s.live c.txn with
            | none => exact ans_none2 h c hc hno k hp ho hl _ _ hbg (by rw [O.bg, hf]; rfl)
            | some t =>
              have ws := O.ws _ _ hf kp (Nat.zero_le _) (by omega)
              rw [hkp] at ws
              dsimp only
              rw [if_neg (by omega)]
              have hb := (O.bg c.txn).trans (by rw [hf]; rfl : _ = true)
              have h26 := fun W (hb : Below w.heap.size w W) => wrote_ref (bel W hb) R.fit c.txn c.page (zs 64) zs_wr
              have hBl := (wrR_wr R.fit c.txn c.page zs_wr).1
              have hct := cnt_is O ok hf
              rw [hn] at hct
              by_cases hh : hasP t.2.2 c.page = true
              · have hfu : full t.2.2 c.page = false := by unfold full; rw [hh]; rfl
                rw [hfu, if_neg (by simp)]
                exact ans_wrote h c hc hno k hp ho hl _ _ hbg hb _ _ hBl h26 (by rw [ws.1]; exact hh)
              · have hfl : (wrR' ds c.txn c.page (zs 64)).2 = false := by rw [ws.1]; simpa using hh
                by_cases h4 : 4 ≤ t.2.2.length
                · have hfu : full t.2.2 c.page = true := by unfold full; simp [hh, h4]
                  rw [hfu, if_pos rfl]
                  exact ans_most h c hc hno k hp ho hl _ _ hbg hb _ _ hBl h26 hfl _ hcn h33 (by omega)
                · have hfu : full t.2.2 c.page = false := by unfold full; simp [h4]
                  rw [hfu, if_neg (by simp)]
                  exact ans_write h c hc hno k hp ho hl _ _ hbg hb _ _ hBl h26 hfl _ hcn h33 (by omega)
          · have hfi : fitsB c.off c.str = false := by simp [fitsB, ho.1, ho.2, hl]
            have hnb : badU s c = true := by unfold badU; rw [hp1, hfi]; simp [k]
            rw [hnb, if_pos rfl]
            exact ans_len h c hc hno k hp ho (by omega)
        · have hfi : fitsB c.off c.str = false := by
            simp only [fitsB, Bool.and_eq_false_iff, decide_eq_false_iff_not]
            by_cases q : 0 ≤ c.off
            · exact Or.inr (Or.inl fun z => ho ⟨q, z⟩)
            · exact Or.inl q
          have hnb : badU s c = true := by unfold badU; rw [hp1, hfi]; simp [k]
          rw [hnb, if_pos rfl]
          by_cases q : 0 ≤ c.off
          · exact ans_off h c hc hno k hp (by have : ¬ c.off ≤ 64 := fun z => ho ⟨q, z⟩; omega)
          · exact ans_neg h c hc hno k hp (by omega)
    · have hnb : badU s c = true := by unfold badU; rw [decide_eq_false hpg]; rfl
      rw [hnb, if_pos rfl]
      exact ans_page h c hc hno k12 (by omega)
  rw [if_neg k12]
  by_cases k34 : c.kind = 3 ∨ c.kind = 4
  · rw [if_pos k34]
    unfold endR
    rcases k34 with k | k
    · cases hf : findL s.live c.txn with
      | none => exact ans_none3 h c hc hno k _ _ hbg (by rw [O.bg, hf]; rfl)
      | some t =>
        have st := O.st _ _ hf
        have hb := (O.bg c.txn).trans (by rw [hf]; rfl : _ = true)
        have hct := cnt_is O ok hf
        rw [hn] at hct
        show Calls Try.prog 23 _ _ fun e w' => e = .returned (.agg (if c.kind = 4 then Rep.zero else commitR { s with live := endL s.live c.txn } t.2.1 t.2.2).arr) ∧ _
        rw [if_neg (by omega)]
        unfold commitR
        by_cases hw : t.2.2 = []
        · rw [if_pos hw]
          have main := ans_nothing h c hc hno k _ _ hbg hb _ hcn h33 (by rw [hct, hw]; rfl)
          rw [st.1] at main
          exact main
        · rw [if_neg hw]
          have h0 : cntW ds c.txn n ≠ 0 := by rw [hct]; exact fun q => hw (List.eq_nil_of_length_eq_zero q)
          have hhi := ok.hi
          have hlo := ok.lo
          have hmx := ok.mx
          show Calls Try.prog 23 _ _ fun e w' => e = .returned (.agg (if s.last = s.max then Rep.fail 8 else if clash s t.2.1 t.2.2 = true then Rep.fail 7 else ⟨0, 0, s.last + 1, zs 64⟩).arr) ∧ _
          by_cases hl : s.last = s.max
          · rw [if_pos hl]
            exact ans_ts h c hc hno k _ _ hbg hb _ hcn h33 h0 _ hls (by omega)
          · rw [if_neg hl]
            have h26 : ∀ W, Below w.heap.size w W → ∀ p : Nat, ∃ B : List Int, B.length = 64 ∧ Calls Try.prog 26 #[.pointer (some ⟨r, 0, none⟩), .int .u64 c.txn, .int .u16 (p : Int), .agg (bs (zs 64))] W fun e w' => e = .returned (.tuple #[.agg (bs B), .bool ((fun p : Nat => (wrR' ds c.txn p (zs 64)).2) p)]) ∧ Below W.heap.size W w' := fun W hb p => ⟨_, (wrR_wr R.fit c.txn p zs_wr).1, wrote_ref (bel W hb) R.fit c.txn p (zs 64) zs_wr⟩
            have h17 : ∀ W, Below w.heap.size w W → ∀ p : Nat, p < n → Calls Try.prog 17 #[.pointer (some ⟨r, 0, none⟩), .int .u16 (p : Int), .int .u32 s.last] W fun e w' => e = .returned (.agg ((fun p : Nat => atV (s.page p) s.last) p).arr) ∧ Below W.heap.size W w' := fun W hb p hp => by
              have := at_ref R ok (p : Int) (by omega) hts _ s.last hlo (Nat.le_refl _) W (bel W hb)
              rw [pg_in (by omega)] at this
              exact this
            have ci := clash_is O ok hf
            have e1 := st.1
            by_cases hcl2 : clash s t.2.1 t.2.2 = true
            · rw [if_pos hcl2]
              obtain ⟨p, p1, p2, p3⟩ := ci.1 hcl2
              exact ans_clash h c hc hno k _ _ hbg hb _ hcn h33 h0 _ hls (by omega) _ _ h26 h17 (by omega) ⟨p, by omega, p2, by rw [e1]; exact p3⟩
            · rw [if_neg hcl2]
              exact ans_done h c hc hno k _ _ hbg hb _ hcn h33 h0 _ hls (by omega) _ _ h26 h17 (by omega) (fun p hp q => hcl2 (ci.2 ⟨p, by omega, q.1, by rw [← e1]; exact q.2⟩)) (by omega)
    · cases hf : findL s.live c.txn with
      | none => exact ans_none4 h c hc hno k _ _ hbg (by rw [O.bg, hf]; rfl)
      | some t =>
        show Calls Try.prog 23 _ _ fun e w' => e = .returned (.agg (if c.kind = 4 then Rep.zero else commitR { s with live := endL s.live c.txn } t.2.1 t.2.2).arr) ∧ _
        rw [if_pos k]
        exact ans_abort h c hc hno k _ _ hbg (by rw [O.bg, hf]; rfl)
  rw [if_neg k34]
  have hk0 := hc.k.1
  by_cases k57 : c.kind = 5 ∨ c.kind = 6 ∨ c.kind = 7
  · rw [if_pos k57]
    exact ans_still h c hc hno (by omega)
  · rw [if_neg k57]
    exact ans_kind h c hc hno (by omega)
end Go.Proofs.Ytpncmbkklkfmnaa
