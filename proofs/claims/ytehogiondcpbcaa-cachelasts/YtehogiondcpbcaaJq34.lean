/-
  Plain facts: a log that stays one whatever fails; a disk with power, of which operations may fail. Plain facts: a block that is not its page is told as torn.
-/
import Derived.Test.YtehogiondcpbcaaJq16
import Derived.Test.YtehogiondcpbcaaJq32
import Derived.Test.YtehogiondcpbcaaJq23
import Derived.Test.YtehogiondcpbcaaJq26
namespace Go.Proofs.Ytehogiondcpbcaa
open Go.ChangeShapes Go.WideShapes Go.ChangeAt Go.RowKit
set_option linter.unusedVariables false
set_option linter.unusedSimpArgs false
set_option maxRecDepth 20000
theorem closed_at (l : Lg) : l.closed.at_ = l.at_ ∧ l.closed.size = l.size ∧ l.closed.last = l.last ∧ l.closed.ep = l.ep ∧ l.closed.fin = l.fin ∧ (l.closed.sealed = [] → l.sealed = []) := by
  unfold Lg.closed
  split
  · exact ⟨rfl, rfl, rfl, rfl, rfl, id⟩
  · exact ⟨rfl, rfl, rfl, rfl, rfl, fun q => by have : l.sealed ++ _ = [] := q; simp at this⟩
structure PI (l : Lg) (k : Nat) : Prop where
  inv : l.Inv
  df : l.sealed = [] → l.open_.size = 0 → l.dur = l.fin
  fin : l.fin ≤ 4611686018427387904 + 406 * k
theorem PI.mono {l : Lg} {k n : Nat} (h : PI l k) (hn : k ≤ n) : PI l n := ⟨h.inv, h.df, by have := h.fin; omega⟩
theorem chunk_ok {l : Lg} (N : Nat) (hN : 1 ≤ N ∧ N ≤ 214) (ho : N ≤ l.open_.size) (he : 0 ≤ l.ep ∧ l.ep ≤ 4294967295) (hx : 0 ≤ l.next ∧ l.next ≤ 4294967295) (hf : (l.open_.size : Int) ≤ l.fin ∧ l.fin ≤ 18446744073709551615) : Ck.O.Ok ⟨l.ep, l.next, l.fin - l.open_.size, l.open_.extract 0 N⟩ := by
  refine ⟨he, hx, ?_, ?_⟩
  · show 0 ≤ l.fin - l.open_.size ∧ l.fin - l.open_.size ≤ _; omega
  · show okC (l.open_.extract 0 N) = true
    unfold okC
    rw [ByteArray.size_extract]
    exact decide_eq_true (by omega)
theorem sealN_ok {l : Lg} (h : ∀ c ∈ l.sealed, c.Ok) (he : 0 ≤ l.ep ∧ l.ep ≤ 4294967295) (hx : 0 ≤ l.next ∧ l.next ≤ 4294967295) (hf : (l.open_.size : Int) ≤ l.fin ∧ l.fin ≤ 18446744073709551615) : ∀ k, k * 214 ≤ l.open_.size → ∀ c ∈ (l.sealN k).sealed, c.Ok
  | 0, _ => h
  | k + 1, hk => fun c hc => by
    have ih := sealN_ok h he hx hf k (by omega)
    have ho := sealN_open l k (by omega)
    have hc2 : c ∈ (l.sealN k).sealed ++ [_] := hc
    rcases List.mem_append.1 hc2 with q | q
    · exact ih c q
    · obtain rfl := List.mem_singleton.1 q
      exact chunk_ok (l := l.sealN k) 214 (by omega) (by omega) (by rw [sealN_ep]; exact he) (sealN_next l hx k) (by rw [sealN_fin]; omega)
theorem PI.app {l : Lg} {k : Nat} (h : PI l k) (hk : k ≤ 1000) (s : ByteArray) : PI (appL l s) (k + 1) := by
  cases hka : okA l s with
  | false =>
    have : appL l s = l := by unfold appL; rw [hka]; rfl
    rw [this]; exact h.mono (by omega)
  | true =>
    have hs : okF s = true := by unfold okA at hka; simp at hka; exact hka.1
    have hf : fullA l (frS s) = false := by unfold okA at hka; simp at hka; exact hka.2
    have hF := frS_size hs
    have he : appL l s = l.app (frS s) := by unfold appL; rw [if_pos hka]
    have hop := h.inv.op
    have hfi := h.inv.fin
    have hfb := h.fin
    have hfu : ¬ l.size < (l.last.length : Int) + l.sealed.length + wantN ((l.open_.size : Int) + (frS s).size) := by
      unfold fullA at hf; exact of_decide_eq_false hf
    have hlast : (l.app (frS s)).last = l.last := sealN_last _ _
    have hsz : (l.open_ ++ frS s).size = l.open_.size + (frS s).size := ByteArray.size_append
    have hopen : (l.app (frS s)).open_.size = (l.open_.size + (frS s).size) - (l.open_.size + (frS s).size) / 214 * 214 := by
      unfold Lg.app
      rw [sealN_open _ _ (by show _ ≤ (l.open_ ++ frS s).size; omega)]
      show (l.open_ ++ frS s).size - _ = _
      rw [hsz]
    have hsl : (l.app (frS s)).sealed.length = l.sealed.length + (l.open_.size + (frS s).size) / 214 := by
      unfold Lg.app
      rw [sealN_len, hsz]; rfl
    have hfin : (l.app (frS s)).fin = l.fin + (frS s).size := by unfold Lg.app; rw [sealN_fin]; rfl
    have hat : (l.app (frS s)).at_ = l.at_ := by unfold Lg.app; rw [sealN_at]; rfl
    have hz : (l.app (frS s)).size = l.size := by unfold Lg.app; rw [sealN_size]; rfl
    have hep : (l.app (frS s)).ep = l.ep := by unfold Lg.app; rw [sealN_ep]; rfl
    rw [he]
    refine ⟨⟨by rw [hat]; exact h.inv.at_, by rw [hz]; exact h.inv.size, by rw [hep]; exact h.inv.ep, sealN_next (l.more (frS s)) h.inv.next _, by rw [hopen]; omega, by rw [hopen, hfin]; omega, ?_, ?_⟩, fun q1 q2 => ?_, by rw [hfin]; omega⟩
    · exact sealN_ok (l := l.more (frS s)) h.inv.ok h.inv.ep h.inv.next (by show (((l.open_ ++ frS s).size : Nat) : Int) ≤ l.fin + (frS s).size ∧ l.fin + (frS s).size ≤ _; rw [hsz]; omega) _ (by show _ ≤ (l.open_ ++ frS s).size; omega)
    · rw [hlast, hsl, hz, hopen]
      unfold wantN at hfu ⊢
      omega
    · rw [hopen] at q2
      have h1 : (l.app (frS s)).sealed.length = 0 := by rw [q1]; rfl
      rw [hsl] at h1
      omega
theorem PI.closedF {l : Lg} {k : Nat} (h : PI l k) (hk : k ≤ 1000) (b : Bool) : ({ l.closed with fresh := b } : Lg).Inv ∧ l.closed.fin = l.fin ∧ l.closed.open_.size = 0 ∧ (l.closed.sealed = [] → l.closed.dur = l.fin) := by
  have hfb := h.fin
  have hok := closed_ok h.inv (by omega)
  obtain ⟨k1, k2, k3, k4, k5, k6⟩ := closed_at l
  have hlen := closed_len h.inv
  have hrm := h.inv.room
  have ho : l.closed.open_.size = 0 := by
    unfold Lg.closed
    split
    · assumption
    · show (l.open_.extract l.open_.size l.open_.size).size = 0
      rw [ByteArray.size_extract]; omega
  have hnx : 0 ≤ l.closed.next ∧ l.closed.next ≤ 4294967295 := by
    unfold Lg.closed
    split
    · exact h.inv.next
    · exact wrap32 _
  have hroom : (l.closed.last.length : Int) + l.closed.sealed.length ≤ l.size := by
    rw [k3]
    by_cases h0 : l.open_.size = 0
    · have : l.closed = l := by unfold Lg.closed; rw [if_pos h0]
      rw [this]
      have h3 : 0 ≤ wantN l.open_.size := by unfold wantN; omega
      omega
    · have h4 : 1 ≤ wantN l.open_.size := by unfold wantN; omega
      omega
  refine ⟨⟨by show 0 ≤ l.closed.at_ ∧ _; rw [k1]; exact h.inv.at_, by show 1 ≤ l.closed.size ∧ _; rw [k2]; exact h.inv.size, by show 0 ≤ l.closed.ep ∧ _; rw [k4]; exact h.inv.ep, hnx, by show l.closed.open_.size < 214; omega, by show (l.closed.open_.size : Int) ≤ l.closed.fin; rw [ho, k5]; have := h.inv.fin; omega, hok, ?_⟩, k5, ho, fun q => ?_⟩
  · show (l.closed.last.length : Int) + l.closed.sealed.length + wantN (l.closed.open_.size : Int) ≤ l.closed.size
    rw [ho, k2]
    unfold wantN; omega
  · by_cases h0 : l.open_.size = 0
    · have : l.closed = l := by unfold Lg.closed; rw [if_pos h0]
      rw [this] at q ⊢
      exact h.df q h0
    · unfold Lg.closed at q
      rw [if_neg h0] at q
      have : l.sealed ++ [_] = [] := q
      simp at this
theorem PI.flush {l : Lg} {k : Nat} (h : PI l k) (hk : k ≤ 1000) (d : Dsk) : PI (flushR l d).2.1 (k + 1) := by
  have hrest : ∀ (b : Bool) (f : Nat) (e : Dsk), (l.closed.sealed ≠ [] ∨ f = 0) → PI (restR { l.closed with fresh := b } f e).2.1 (k + 1) := fun b f e hne => by
    obtain ⟨h1, h2, h3, h4⟩ := h.closedF hk b
    have hfb := h.fin
    unfold restR
    by_cases h0 : (layR ({ l.closed with fresh := b } : Lg).at_ ({ l.closed with fresh := b } : Lg).size (({ l.closed with fresh := b } : Lg).sealed.drop f) e).1 = 0
    · rw [if_pos h0]
      refine ⟨⟨h1.at_, h1.size, h1.ep, h1.next, h1.op, h1.fin, (fun c hc => by cases hc), ?_⟩, fun _ _ => rfl, by show l.closed.fin ≤ _; rw [h2]; omega⟩
      have := h1.room
      show ((l.closed.last ++ l.closed.sealed.map (·.off)).length : Int) + ((0 : Nat) : Int) + wantN (l.closed.open_.size : Int) ≤ l.closed.size
      have e1 : ((l.closed.last ++ l.closed.sealed.map (·.off)).length : Int) = (l.closed.last.length : Int) + l.closed.sealed.length := by rw [List.length_append, List.length_map]; push_cast; rfl
      have e2 : (l.closed.last.length : Int) + l.closed.sealed.length + wantN (l.closed.open_.size : Int) ≤ l.closed.size := this
      rw [e1]; omega
    · rw [if_neg h0]
      refine ⟨h1, fun q _ => ?_, by show l.closed.fin ≤ _; rw [h2]; omega⟩
      show l.closed.dur = l.closed.fin
      rw [h2]; exact h4 q
  have hself : ∀ b : Bool, PI { l.closed with fresh := b } (k + 1) := fun b => by
    obtain ⟨h1, h2, h3, h4⟩ := h.closedF hk b
    have hfb := h.fin
    exact ⟨h1, fun q _ => by show l.closed.dur = l.closed.fin; rw [h2]; exact h4 q, by show l.closed.fin ≤ _; rw [h2]; omega⟩
  unfold flushR flushC
  by_cases hc : l.closed.fresh = true ∧ l.closed.sealed ≠ []
  · rw [if_pos hc]
    by_cases h0 : (layR l.closed.at_ l.closed.size (l.closed.sealed.take 1) d).1 = 0
    · rw [if_pos h0]; exact hrest false 1 _ (Or.inl hc.2)
    · rw [if_neg h0]; exact hself l.closed.fresh
  · rw [if_neg hc]; exact hrest l.closed.fresh 0 d (Or.inr rfl)
structure Fz (d : Dsk) (n : Nat) (k : Int) : Prop where
  size : d.n = n
  fuse : d.fuse = 0
  on : d.down = false
  lo : 0 ≤ d.ops
  hi : d.ops ≤ k
theorem Fz.tick {d : Dsk} {n : Nat} {k : Int} (h : Fz d n k) : Fz (d.tick (d.ops + 1)) n (k + 1) := ⟨h.size, h.fuse, h.on, by have := h.lo; show 0 ≤ d.ops + 1; omega, by have := h.hi; show d.ops + 1 ≤ _; omega⟩
theorem Fz.mono {d : Dsk} {n : Nat} {k l : Int} (h : Fz d n k) (hl : k ≤ l) : Fz d n l := ⟨h.size, h.fuse, h.on, h.lo, by have := h.hi; omega⟩
theorem Fz.wrote {d : Dsk} {n : Nat} {k : Int} (h : Fz d n k) (b : Int) (x : List Int) : Fz (d.wrote b x 4) n k := ⟨h.size, h.fuse, h.on, h.lo, h.hi⟩
theorem Fz.synced {d : Dsk} {n : Nat} {k : Int} (h : Fz d n k) : Fz d.synced n k := ⟨h.size, h.fuse, h.on, h.lo, h.hi⟩
theorem count_fz {d : Dsk} {n : Nat} {k : Int} (h : Fz d n k) : ∃ E, count d = (E, d.tick (d.ops + 1)) := by
  unfold count
  rw [if_neg (by rw [h.fuse]; have := h.lo; omega)]
  split
  · exact ⟨3, rfl⟩
  · exact ⟨0, rfl⟩
theorem writ_fz {d : Dsk} {n : Nat} {k : Int} (h : Fz d n k) (b : Int) (hb : 0 ≤ b ∧ b < n) (x : List Int) : ∃ E d', writ d b x = (E, d') ∧ Fz d' n (k + 1) ∧ (E = 0 → d' = (d.tick (d.ops + 1)).wrote b x 4) ∧ (E ≠ 0 → d' = d.tick (d.ops + 1)) := by
  obtain ⟨E, hE⟩ := count_fz h
  have ha : ask d b = (E, d.tick (d.ops + 1)) := by
    unfold ask
    rw [if_neg (by rw [h.on]; simp), if_pos (by rw [h.size]; exact hb)]; exact hE
  unfold writ
  rw [ha]
  by_cases h0 : E = 0
  · rw [if_pos h0]; exact ⟨0, _, rfl, h.tick.wrote b x, fun _ => rfl, fun q => absurd rfl q⟩
  · rw [if_neg h0]; exact ⟨E, _, rfl, h.tick, fun q => absurd q h0, fun _ => rfl⟩
theorem sync_fz {d : Dsk} {n : Nat} {k : Int} (h : Fz d n k) : ∃ E d', sync d = (E, d') ∧ Fz d' n (k + 1) ∧ (∀ b, d'.seen b = d.seen b) ∧ (E = 0 → d'.pend = []) := by
  obtain ⟨E, hE⟩ := count_fz h
  unfold sync
  rw [if_neg (by rw [h.on]; simp), hE]
  by_cases h0 : E = 0
  · rw [if_pos h0]; exact ⟨0, _, rfl, h.tick.synced, fun b => rfl, fun _ => rfl⟩
  · rw [if_neg h0]; exact ⟨E, _, rfl, h.tick, fun b => rfl, fun q => absurd q h0⟩
def SomeB (a z : Int) (cs : List Ck.O) (f f' : Int → List Int) : Prop := ∀ b, f' b = f b ∨ ∃ c ∈ cs, b = placeV a z c.num ∧ f' b = blkC c
theorem SomeB.refl (a z : Int) (cs : List Ck.O) (f : Int → List Int) : SomeB a z cs f f := fun b => Or.inl rfl
theorem SomeB.trans {a z : Int} {cs cs2 : List Ck.O} {f g h : Int → List Int} (h1 : SomeB a z cs f g) (h2 : SomeB a z cs2 g h) : SomeB a z (cs ++ cs2) f h := fun b => by
  rcases h2 b with q | ⟨c, q1, q2, q3⟩
  · rcases h1 b with r | ⟨c, r1, r2, r3⟩
    · exact Or.inl (q.trans r)
    · exact Or.inr ⟨c, List.mem_append_left _ r1, r2, q.trans r3⟩
  · exact Or.inr ⟨c, List.mem_append_right _ q1, q2, q3⟩
theorem SomeB.sub {a z : Int} {cs cs2 : List Ck.O} {f g : Int → List Int} (h : SomeB a z cs f g) (hs : ∀ c ∈ cs, c ∈ cs2) : SomeB a z cs2 f g := fun b => by
  rcases h b with q | ⟨c, q1, q2, q3⟩
  · exact Or.inl q
  · exact Or.inr ⟨c, hs c q1, q2, q3⟩
theorem SomeB.one (a z : Int) (c : Ck.O) (f : Int → List Int) : SomeB a z [c] f (fun b => if b = placeV a z c.num then blkC c else f b) := fun b => by
  by_cases hb : b = placeV a z c.num
  · exact Or.inr ⟨c, List.mem_singleton.2 rfl, hb, if_pos hb⟩
  · exact Or.inl (if_neg hb)
theorem wrote_put (d : Dsk) (a z : Int) (c : Ck.O) (k : Int) : ((d.tick k).wrote (placeV a z c.num) (blkC c) 4).seen = fun b => if b = placeV a z c.num then blkC c else d.seen b := by
  funext b
  by_cases hb : b = placeV a z c.num
  · rw [if_pos hb, hb, wrote_seen _ _ _ (blkC_length c)]
  · rw [if_neg hb, wrote_other _ _ _ _ hb, tick_seen]
theorem wrS_fz {a z : Int} {n : Nat} : ∀ (cs : List Ck.O) (d : Dsk) (k : Int), Fz d n k → (∀ c ∈ cs, 0 ≤ placeV a z c.num ∧ placeV a z c.num < n) → ∃ E d', wrS a z cs d = (E, d') ∧ Fz d' n (k + cs.length) ∧ (E = 0 → d'.seen = putB a z d.seen cs) ∧ SomeB a z cs d.seen d'.seen
  | [], d, k, h, _ => ⟨0, d, rfl, h.mono (by simp), fun _ => rfl, SomeB.refl _ _ _ _⟩
  | c :: cs, d, k, h, hp => by
    obtain ⟨E, d1, e1, f1, g1, g2⟩ := writ_fz h (placeV a z c.num) (hp c List.mem_cons_self) (blkC c)
    by_cases h0 : E = 0
    · have s1 : d1.seen = fun b => if b = placeV a z c.num then blkC c else d.seen b := by rw [g1 h0]; exact wrote_put d a z c _
      obtain ⟨E2, d2, e2, f2, g3, g4⟩ := wrS_fz cs d1 (k + 1) f1 (fun c' hc => hp c' (List.mem_cons_of_mem _ hc))
      refine ⟨E2, d2, by rw [wrS_cons, e1, if_pos h0]; exact e2, f2.mono (by simp; omega), fun q => ?_, ?_⟩
      · rw [g3 q, s1]; rfl
      · have := (SomeB.one a z c d.seen).trans (by rw [s1] at g4; exact g4)
        exact this
    · refine ⟨E, d1, by rw [wrS_cons, e1, if_neg h0], f1.mono (by simp; omega), fun q => absurd q h0, ?_⟩
      rw [g2 h0]; exact SomeB.refl _ _ _ _
theorem layR_fz {a z : Int} {n : Nat} (cs : List Ck.O) (d : Dsk) (k : Int) (h : Fz d n k) (hp : ∀ c ∈ cs, 0 ≤ placeV a z c.num ∧ placeV a z c.num < n) : ∃ E d', layR a z cs d = (E, d') ∧ Fz d' n (k + cs.length + 1) ∧ (E = 0 → d'.seen = putB a z d.seen cs) ∧ SomeB a z cs d.seen d'.seen ∧ (cs = [] → E = 0 ∧ d' = d) ∧ (cs ≠ [] → E = 0 → d'.pend = []) := by
  by_cases hc : cs = []
  · exact ⟨0, d, by unfold layR; rw [if_pos hc], h.mono (by omega), fun _ => by rw [hc]; rfl, SomeB.refl _ _ _ _, fun _ => ⟨rfl, rfl⟩, fun q => absurd hc q⟩
  · obtain ⟨E, d1, e1, f1, g1, g2⟩ := wrS_fz cs d k h hp
    by_cases h0 : E = 0
    · obtain ⟨E2, d2, e2, f2, g3, g4⟩ := sync_fz f1
      have s2 : d2.seen = d1.seen := funext g3
      refine ⟨E2, d2, by unfold layR; rw [if_neg hc, e1, if_pos h0]; exact e2, f2, fun _ => by rw [s2]; exact g1 h0, by rw [s2]; exact g2, fun q => absurd q hc, fun _ q => g4 q⟩
    · exact ⟨E, d1, by unfold layR; rw [if_neg hc, e1, if_neg h0], f1.mono (by omega), fun q => absurd q h0, g2, fun q => absurd q hc, fun _ q => absurd q h0⟩
structure FlO (l : Lg) (d : Dsk) (n : Nat) (k : Int) (E : Int) (l' : Lg) (d' : Dsk) : Prop where
  fz : Fz d' n (k + l.closed.sealed.length + 3)
  ok : E = 0 → l' = l.fl ∧ d'.seen = putB l.at_ l.size d.seen l.closed.sealed ∧ (l.closed.sealed = [] → d' = d) ∧ (l.closed.sealed ≠ [] → d'.pend = [])
  no : E ≠ 0 → (∃ b, l' = { l.closed with fresh := b }) ∧ l.closed.sealed ≠ []
  some : SomeB l.at_ l.size l.closed.sealed d.seen d'.seen
theorem flush_fz {n : Nat} (l : Lg) (d : Dsk) (k : Int) (h : Fz d n k) (hp : ∀ c ∈ l.closed.sealed, 0 ≤ placeV l.at_ l.size c.num ∧ placeV l.at_ l.size c.num < n) (ha : l.closed.at_ = l.at_) (hz : l.closed.size = l.size) : ∃ E l' d', flushR l d = (E, l', d') ∧ FlO l d n k E l' d' := by
  unfold flushR flushC
  have hself : l.closed = { l.closed with fresh := l.closed.fresh } := rfl
  by_cases hc : l.closed.fresh = true ∧ l.closed.sealed ≠ []
  · rw [if_pos hc]
    have hfl : l.fl = Lg.flushed { l.closed with fresh := false } := by unfold Lg.fl; rw [if_pos hc]
    have hlen : (l.closed.sealed.take 1).length + (l.closed.sealed.drop 1).length = l.closed.sealed.length := by rw [← List.length_append, List.take_append_drop]
    obtain ⟨E1, d1, e1, f1, g1, s1, _, p1⟩ := layR_fz (l.closed.sealed.take 1) d k h (fun c hq => hp c (List.mem_of_mem_take hq))
    have e1' : layR l.closed.at_ l.closed.size (l.closed.sealed.take 1) d = (E1, d1) := by rw [ha, hz]; exact e1
    rw [e1']
    show ∃ E l' d', (if E1 = 0 then restR { l.closed with fresh := false } 1 d1 else (E1, l.closed, d1)) = (E, l', d') ∧ FlO l d n k E l' d'
    by_cases h0 : E1 = 0
    · rw [if_pos h0]
      obtain ⟨E2, d2, e2, f2, g2, s2, q2, p2⟩ := layR_fz (a := l.at_) (z := l.size) (l.closed.sealed.drop 1) d1 _ f1 (fun c hq => hp c (List.mem_of_mem_drop hq))
      have hr : restR { l.closed with fresh := false } 1 d1 = if E2 = 0 then (0, Lg.flushed { l.closed with fresh := false }, d2) else (E2, { l.closed with fresh := false }, d2) := by
        unfold restR
        simp only [ha, hz, e2]
      have hs : SomeB l.at_ l.size l.closed.sealed d.seen d2.seen := by
        have := s1.trans s2
        rw [List.take_append_drop] at this; exact this
      rw [hr]
      by_cases h2 : E2 = 0
      · rw [if_pos h2]
        refine ⟨0, _, d2, rfl, f2.mono (by omega), fun _ => ⟨hfl.symm, ?_, fun q => absurd q hc.2, fun _ => ?_⟩, fun q => absurd rfl q, hs⟩
        · rw [g2 h2, g1 h0, ← putB_append, List.take_append_drop]
        · by_cases hd : l.closed.sealed.drop 1 = []
          · rw [(q2 hd).2]
            refine p1 (fun q => hc.2 ?_) h0
            have := List.take_append_drop 1 l.closed.sealed
            rw [q, hd] at this; exact this.symm
          · exact p2 hd h2
      · rw [if_neg h2]
        exact ⟨E2, _, d2, rfl, f2.mono (by omega), fun q => absurd q h2, fun _ => ⟨⟨false, rfl⟩, hc.2⟩, hs⟩
    · rw [if_neg h0]
      refine ⟨E1, _, d1, rfl, f1.mono (by omega), fun q => absurd q h0, fun _ => ⟨⟨l.closed.fresh, rfl⟩, hc.2⟩, s1.sub (fun c q => List.mem_of_mem_take q)⟩
  · rw [if_neg hc]
    have hfl : l.fl = Lg.flushed l.closed := by unfold Lg.fl; rw [if_neg hc]
    obtain ⟨E2, d2, e2, f2, g2, s2, q2, p2⟩ := layR_fz (a := l.at_) (z := l.size) l.closed.sealed d k h hp
    have hr : restR l.closed 0 d = if E2 = 0 then (0, Lg.flushed l.closed, d2) else (E2, l.closed, d2) := by
      unfold restR
      simp only [ha, hz, List.drop_zero, e2]
    rw [hr]
    by_cases h2 : E2 = 0
    · rw [if_pos h2]
      exact ⟨0, _, d2, rfl, f2.mono (by omega), fun _ => ⟨hfl.symm, g2 h2, fun q => (q2 q).2, fun q => p2 q h2⟩, fun q => absurd rfl q, s2⟩
    · rw [if_neg h2]
      exact ⟨E2, _, d2, rfl, f2.mono (by omega), fun q => absurd q h2, fun _ => ⟨⟨l.closed.fresh, rfl⟩, fun q => h2 (q2 q).1⟩, s2⟩
def Keep (d d' : Dsk) (b : Int) : Prop := d'.seen b = d.seen b ∧ (d'.sure.block b = d.sure.block b ∨ d'.sure.block b = d.seen b)
theorem Keep.refl (d : Dsk) (b : Int) : Keep d d b := ⟨rfl, Or.inl rfl⟩
theorem Keep.trans {d d1 d2 : Dsk} {b : Int} (h : Keep d d1 b) (k : Keep d1 d2 b) : Keep d d2 b := by
  refine ⟨k.1.trans h.1, ?_⟩
  rcases k.2 with q | q
  · rcases h.2 with r | r
    · exact Or.inl (q.trans r)
    · exact Or.inr (q.trans r)
  · exact Or.inr (q.trans h.1)
theorem Keep.same {d d' : Dsk} (h1 : d'.sure = d.sure) (h2 : d'.pend = d.pend) (b : Int) : Keep d d' b := ⟨by unfold Dsk.seen; rw [h1, h2], Or.inl (by rw [h1])⟩
theorem count_parts (d : Dsk) : (count d).2.sure = d.sure ∧ (count d).2.pend = d.pend := by
  unfold count
  split
  · exact ⟨rfl, rfl⟩
  · split <;> exact ⟨rfl, rfl⟩
theorem ask_parts (d : Dsk) (c : Int) : (ask d c).2.sure = d.sure ∧ (ask d c).2.pend = d.pend := by
  unfold ask
  split
  · exact ⟨rfl, rfl⟩
  · split
    · exact count_parts d
    · exact ⟨rfl, rfl⟩
theorem wrote_keep (d : Dsk) (c b : Int) (x : List Int) (h : b ≠ c) : Keep d (d.wrote c x 4) b := ⟨wrote_other d c b x h, Or.inl (by rw [wrote_sure])⟩
theorem writ_keep (d : Dsk) (c b : Int) (x : List Int) (h : b ≠ c) : Keep d (writ d c x).2 b := by
  have hp := ask_parts d c
  unfold writ
  split
  · exact (Keep.same hp.1 hp.2 b).trans (wrote_keep _ c b x h)
  · exact Keep.same hp.1 hp.2 b
theorem synced_keep (d : Dsk) (b : Int) : Keep d d.synced b := ⟨rfl, Or.inr rfl⟩
theorem sync_keep (d : Dsk) (b : Int) : Keep d (sync d).2 b := by
  have hp := count_parts d
  unfold sync
  split
  · exact Keep.refl d b
  · split
    · exact (Keep.same hp.1 hp.2 b).trans (synced_keep _ b)
    · exact Keep.same hp.1 hp.2 b
theorem read_keep (d : Dsk) (c b : Int) : Keep d (read d c).2.2 b := by
  have hp := ask_parts d c
  unfold read
  split
  · exact Keep.same hp.1 hp.2 b
  · exact Keep.same hp.1 hp.2 b
theorem wrS_keep (a z b : Int) : ∀ (cs : List Ck.O) (d : Dsk), (∀ c ∈ cs, b ≠ placeV a z c.num) → Keep d (wrS a z cs d).2 b
  | [], d, _ => Keep.refl d b
  | c :: cs, d, h => by
    rw [wrS_cons]
    split
    · exact (writ_keep d _ b _ (h c List.mem_cons_self)).trans (wrS_keep a z b cs _ (fun c' q => h c' (List.mem_cons_of_mem _ q)))
    · exact writ_keep d _ b _ (h c List.mem_cons_self)
theorem layR_keep (a z b : Int) (cs : List Ck.O) (d : Dsk) (h : ∀ c ∈ cs, b ≠ placeV a z c.num) : Keep d (layR a z cs d).2 b := by
  unfold layR
  split
  · exact Keep.refl d b
  · split
    · exact (wrS_keep a z b cs d h).trans (sync_keep _ b)
    · exact wrS_keep a z b cs d h
theorem flush_keep (l : Lg) (d : Dsk) (b : Int) (h : ∀ x, b ≠ placeV l.closed.at_ l.closed.size x) : Keep d (flushR l d).2.2 b := by
  have hrest : ∀ (m : Lg) (f : Nat) (e : Dsk), m.at_ = l.closed.at_ → m.size = l.closed.size → Keep e (restR m f e).2.2 b := fun m f e h1 h2 => by
    have hk := layR_keep m.at_ m.size b (m.sealed.drop f) e (fun c _ => by rw [h1, h2]; exact h c.num)
    unfold restR
    split
    · exact hk
    · exact hk
  unfold flushR flushC
  split
  · have hk := layR_keep l.closed.at_ l.closed.size b (l.closed.sealed.take 1) d (fun c _ => h c.num)
    split
    · exact hk.trans (hrest _ 1 _ rfl rfl)
    · exact hk
  · exact hrest _ 0 d rfl rfl
theorem flush_told {l : Lg} {d : Dsk} {n : Nat} {k : Int} {j : Nat} (hp : PI l j) (hf : Fz d n k) (hin : ∀ x, 0 ≤ placeV l.at_ l.size x ∧ placeV l.at_ l.size x < n) :
    Fz (flushR l d).2.2 n (k + 1000) ∧ (flushR l d).2.1.at_ = l.at_ ∧ (flushR l d).2.1.size = l.size ∧ (flushR l d).2.1.fin = l.fin ∧ ((flushR l d).1 = 0 → (flushR l d).2.1.dur = l.fin) ∧ ((flushR l d).1 ≠ 0 → (flushR l d).2.1.dur = l.dur) := by
  obtain ⟨k1, k2, k3, k4, k5, k6⟩ := closed_at l
  have hdu : l.closed.dur = l.dur := by unfold Lg.closed; split <;> rfl
  have hlen := (closed_len hp.inv).1
  obtain ⟨E, l', d', e, o⟩ := flush_fz l d k hf (fun c _ => hin c.num) k1 k2
  rw [e]
  refine ⟨o.fz.mono (by omega), ?_⟩
  by_cases h0 : E = 0
  · obtain ⟨rfl, _⟩ := o.ok h0
    have hfl : l.fl.at_ = l.at_ ∧ l.fl.size = l.size ∧ l.fl.fin = l.fin ∧ l.fl.dur = l.fin := by
      unfold Lg.fl
      split
      · exact ⟨k1, k2, k5, k5⟩
      · exact ⟨k1, k2, k5, k5⟩
    exact ⟨hfl.1, hfl.2.1, hfl.2.2.1, fun _ => hfl.2.2.2, fun q => absurd h0 q⟩
  · obtain ⟨⟨b, rfl⟩, _⟩ := o.no h0
    exact ⟨k1, k2, k5, fun q => absurd q h0, fun _ => hdu⟩
theorem CL.write {w : World} {F : Nat → Prop} {gc gd gl gk ak : Nat} {s : Cs} {l : Lg} {d : Dsk} {M : Int} {N : Nat} (c : CL w F gc gd gl gk ak s l d M N) (ho : d.ops < 9223372036854775806) (b : Int) (x : List Int) (hx : x.length = 256) (xb : Bytes x) (hN : N + 4 < 1000000000000) : Calls Try.prog 30 #[.pointer (some ⟨gd, 0, none⟩), .int .i64 b, .agg (bs x)] w fun e w' => e = .returned (.int .i64 (writ d b x).1) ∧ CStep w F gc gd gl gk ak s l (writ d b x).2 M (N + 4) w' := by
  obtain ⟨fv, m, n, vl, vs, L, cA, hst, lD, hdis, hF⟩ := c.self
  refine (hst.write ho b x hx xb hN).mono ?_
  rintro e w' ⟨q1, q2⟩
  refine ⟨q1, CStep.logd hdis hF (fun j q => cA.lt q) (q2.off.mono fun j q => Or.inl (hF j (Or.inl q))) q2 (cA.off q2.off fun k q q2 => hdis k q2 q) c.ok⟩
end Go.Proofs.Ytehogiondcpbcaa
