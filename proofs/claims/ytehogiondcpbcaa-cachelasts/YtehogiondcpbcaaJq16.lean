/-
  Plain facts of disks: what is seen, what a crash keeps, and disks whose power stays. Proved here: each call of a log, over the log and its disk in memory: Append, Flush, Scan, End, Durable, Free, Tail, From. Plain facts: what Flush leaves on a disk whose power stays, and what Scan tells of it. A cache with its log and its disk, in memory. Proved here: what is told of a cache: has, find, Pins, Resident, Clean, Torn.
-/
import Derived.Test.YtehogiondcpbcaaJq13
import Derived.Test.YtehogiondcpbcaaJq05
import Derived.Test.YtehogiondcpbcaaJq14
import Derived.Test.YtehogiondcpbcaaJq15
import Derived.Test.YtehogiondcpbcaaJq08
namespace Go.Proofs.Ytehogiondcpbcaa
open Go.ChangeShapes Go.WideShapes Go.ChangeAt Go.RowKit
set_option linter.unusedVariables false
set_option linter.unusedSimpArgs false
set_option maxRecDepth 20000
theorem kept_none (ps : List (Int × Int × List Int)) (bl : List Bool) : ∀ k, (∀ j, j < k → bl.getD j false = false) → kept ps bl k = []
  | 0, _ => rfl
  | k + 1, h => by
    unfold kept
    rw [if_neg (by rw [h k (by omega)]; simp), kept_none ps bl k (fun j hj => h j (by omega))]
def Dsk.tick (d : Dsk) (k : Int) : Dsk := ⟨d.n, d.sure, d.pend, d.down, k, d.fuse, d.fails⟩
structure Well (d : Dsk) (n : Nat) (k : Int) : Prop where
  size : d.n = n
  fuse : d.fuse = 0
  on : d.down = false
  fails : ∀ i, d.fails i = false
  lo : 0 ≤ d.ops
  hi : d.ops ≤ k
theorem count_well {d : Dsk} {n : Nat} {k : Int} (h : Well d n k) : count d = (0, d.tick (d.ops + 1)) := by
  have h0 := h.lo
  unfold count
  rw [if_neg (by rw [h.fuse]; omega), if_neg (by rw [h.fails]; simp)]
  rfl
theorem Well.tick {d : Dsk} {n : Nat} {k : Int} (h : Well d n k) : Well (d.tick (d.ops + 1)) n (k + 1) :=
  ⟨h.size, h.fuse, h.on, h.fails, by have := h.lo; show 0 ≤ d.ops + 1; omega, by have := h.hi; show d.ops + 1 ≤ k + 1; omega⟩
theorem writ_well {d : Dsk} {n : Nat} {k : Int} (h : Well d n k) (b : Int) (hb : 0 ≤ b ∧ b < n) (x : List Int) : writ d b x = (0, (d.tick (d.ops + 1)).wrote b x 4) := by
  have ha : ask d b = (0, d.tick (d.ops + 1)) := by
    unfold ask
    rw [if_neg (by rw [h.on]; simp), if_pos ⟨hb.1, by rw [h.size]; exact hb.2⟩, count_well h]
  unfold writ
  rw [ha]; rfl
theorem sync_well {d : Dsk} {n : Nat} {k : Int} (h : Well d n k) : sync d = (0, (d.tick (d.ops + 1)).synced) := by
  unfold sync
  rw [if_neg (by rw [h.on]; simp), count_well h]; rfl
theorem Well.wrote {d : Dsk} {n : Nat} {k : Int} (h : Well d n k) (b : Int) (x : List Int) : Well (d.wrote b x 4) n k := ⟨h.size, h.fuse, h.on, h.fails, h.lo, h.hi⟩
theorem Well.synced {d : Dsk} {n : Nat} {k : Int} (h : Well d n k) : Well d.synced n k := ⟨h.size, h.fuse, h.on, h.fails, h.lo, h.hi⟩
theorem Well.mono {d : Dsk} {n : Nat} {k l : Int} (h : Well d n k) (hl : k ≤ l) : Well d n l := ⟨h.size, h.fuse, h.on, h.fails, h.lo, by have := h.hi; omega⟩
theorem wrote_sure (d : Dsk) (b : Int) (x : List Int) : ∀ k, (d.wrote b x k).sure = d.sure
  | 0 => rfl
  | k + 1 => wrote_sure d b x k
theorem over_out : ∀ (ps : List (Int × Int × List Int)) (f : Secs) (b : Int), (∀ q ∈ ps, q.1 ≠ b) → ∀ s, over f ps b s = f b s
  | [], f, b, _, s => rfl
  | q :: r, f, b, h, s => by
    show over (f.put q.1 q.2.1 q.2.2) r b s = _
    rw [over_out r _ b (fun p hp => h p (List.mem_cons_of_mem _ hp)) s]
    unfold Secs.put
    rw [if_neg (fun e => h q (List.mem_cons_self ..) e.1.symm)]
theorem block_out (f : Secs) (ps : List (Int × Int × List Int)) (b : Int) (h : ∀ q ∈ ps, q.1 ≠ b) : (over f ps).block b = f.block b := by
  unfold Secs.block
  congr 1
  funext i
  unfold Secs.get
  rw [over_out ps f b h]
theorem seen_none (d : Dsk) (h : d.pend = []) (b : Int) : d.seen b = d.sure.block b := by unfold Dsk.seen; rw [h]; rfl
theorem LD.turn {w wr w' : World} {gl gd : Nat} {F : Nat → Prop} {l l2 : Lg} {d : Dsk} {M : Nat} {vl vs vs2 : Value} {L : Loc} (h1 : LD wr gl gd vl vs L l d M) (h2 : Off F w wr) (h3 : ∀ j, lfoot gl gd vl vs L j → F j ∨ w.heap.size ≤ j)
    (k1 : Row w' gl (lcells (.pointer (some ⟨gd, 0, none⟩)) vl vs2 l2) 99) (k2 : Ck.Own w' (gl + 1) vs2 l2.sealed) (k3 : Off (fun j => j = gl ∨ vs.ownBlock = some j) wr w') (k4 : ∀ j, vs2.ownBlock = some j → vs.ownBlock = some j ∨ wr.heap.size ≤ j) (hl : l2.last = l.last) : LStep w gl gd F l2 d M w' := by
  have hU : OwnU w' (gl + 1) vl l2.last := by
    rw [hl]
    refine h1.last.off k3 (fun j q => ?_)
    rintro (q2 | q2)
    · have := (World.ownsRow.lt h1.last j q).1; omega
    · exact own_apartU h1.last h1.sld q q2
  refine ⟨vl, vs2, L, ⟨k1, hU, k2, h1.dsk.off k3 (fun j q => ?_), h1.ng, h1.nl, fun j q q2 => ?_⟩, h2.trans k3 (fun j q => ?_), fun j q => ?_⟩
  · rintro (q2 | q2)
    · subst q2; exact h1.ng q
    · exact h1.ns j q2 q
  · rcases k4 j q with q3 | q3
    · exact h1.ns j q3 q2
    · have := h1.dsk.lt q2; omega
  · rcases q with q | q
    · exact h3 j (Or.inl q)
    · exact h3 j (Or.inr (Or.inr (Or.inl q)))
  · rcases q with q | q | q | q
    · exact h3 j (Or.inl q)
    · exact h3 j (Or.inr (Or.inl q))
    · rcases k4 j q with q3 | q3
      · exact h3 j (Or.inr (Or.inr (Or.inl q3)))
      · have := h2.size; exact Or.inr (by omega)
    · exact h3 j (Or.inr (Or.inr (Or.inr q)))
theorem sealN_last (l : Lg) : ∀ k, (l.sealN k).last = l.last
  | 0 => rfl
  | k + 1 => sealN_last l k
theorem sealN_ep (l : Lg) : ∀ k, (l.sealN k).ep = l.ep
  | 0 => rfl
  | k + 1 => sealN_ep l k
theorem sealN_at (l : Lg) : ∀ k, (l.sealN k).at_ = l.at_
  | 0 => rfl
  | k + 1 => sealN_at l k
theorem sealN_size (l : Lg) : ∀ k, (l.sealN k).size = l.size
  | 0 => rfl
  | k + 1 => sealN_size l k
theorem sealN_dur (l : Lg) : ∀ k, (l.sealN k).dur = l.dur
  | 0 => rfl
  | k + 1 => sealN_dur l k
def okA (l : Lg) (s : ByteArray) : Bool := okF s && !fullA l (frS s)
def appE (l : Lg) (s : ByteArray) : Int := if okF s = true then if fullA l (frS s) = true then 5 else 0 else 1
def appA (l : Lg) (s : ByteArray) : Int := if okA l s = true then l.fin else 0
def appL (l : Lg) (s : ByteArray) : Lg := if okA l s = true then l.app (frS s) else l
theorem LStep.app {w wr : World} {gl gd : Nat} {F : Nat → Prop} {l : Lg} {d : Dsk} {M : Nat} (h : LStep w gl gd F l d M wr) (s : ByteArray) (hs : s.size ≤ maxLen) (hla : l.last.length ≤ 1000000) (hsl : l.sealed.length ≤ 800) (hop : l.open_.size ≤ 10000) (hf : (l.open_.size : Int) ≤ l.fin ∧ l.fin ≤ 9223372036854775807) (hx : 0 ≤ l.next ∧ l.next ≤ 4294967295) :
    Calls Try.prog 17 #[.pointer (some ⟨gl, 0, none⟩), .string s] wr fun e w' => e = .returned (.tuple #[.int .u64 (appA l s), .int .i64 (appE l s)]) ∧ LStep w gl gd F (appL l s) d M w' := by
  have h0 := h
  obtain ⟨vl, vs, L, h1, h2, h3⟩ := h
  refine (lapp_any wr gl _ vl vs l s h1.row h1.last h1.sld hs hla hsl hop hf hx).mono ?_
  rintro e w' ⟨q1, q2, q3⟩
  unfold appA appE appL okA
  cases hk : okF s with
  | false =>
    obtain ⟨rfl, hb⟩ := q1 hk
    exact ⟨rfl, h0.below hb⟩
  | true =>
    cases hu : fullA l (frS s) with
    | true =>
      obtain ⟨rfl, hb⟩ := q2 hk hu
      exact ⟨rfl, h0.below hb⟩
    | false =>
      obtain ⟨rfl, vs2, k1, k2, k3, k4⟩ := q3 hk hu
      exact ⟨rfl, h1.turn h2 h3 k1 k2 k3 k4 (sealN_last _ _)⟩
structure Lg.Inv (l : Lg) : Prop where
  at_ : 0 ≤ l.at_ ∧ l.at_ ≤ 4294967295
  size : 1 ≤ l.size ∧ l.size ≤ 700
  ep : 0 ≤ l.ep ∧ l.ep ≤ 4294967295
  next : 0 ≤ l.next ∧ l.next ≤ 4294967295
  op : l.open_.size < 214
  fin : (l.open_.size : Int) ≤ l.fin
  ok : ∀ c ∈ l.sealed, c.Ok
  room : (l.last.length : Int) + l.sealed.length + wantN l.open_.size ≤ l.size
theorem Lg.Inv.few {l : Lg} (h : l.Inv) : l.last.length ≤ 700 ∧ l.sealed.length ≤ 700 ∧ (l.open_.size ≠ 0 → l.sealed.length ≤ 699) := by
  have h1 := h.room
  have h2 := h.size
  have h3 : 0 ≤ wantN l.open_.size := by unfold wantN; omega
  refine ⟨by omega, by omega, fun hq => ?_⟩
  have h4 : 1 ≤ wantN l.open_.size := by unfold wantN; omega
  omega
theorem closed_ok {l : Lg} (h : l.Inv) (hf : l.fin ≤ 18446744073709551615) : ∀ c ∈ l.closed.sealed, c.Ok := by
  unfold Lg.closed
  split
  · exact h.ok
  · rename_i ho
    intro c hc
    rcases List.mem_append.1 hc with q | q
    · exact h.ok c q
    · obtain rfl := List.mem_singleton.1 q
      refine ⟨h.ep, h.next, ?_, ?_⟩
      · have := h.fin; show 0 ≤ l.fin - l.open_.size ∧ l.fin - l.open_.size ≤ _; omega
      · show okC (l.open_.extract 0 l.open_.size) = true
        unfold okC
        rw [ByteArray.size_extract]
        have := h.op
        exact decide_eq_true (by omega)
theorem closed_len {l : Lg} (h : l.Inv) : l.closed.sealed.length ≤ 700 ∧ l.closed.sealed.length ≤ l.sealed.length + 1 ∧ l.closed.at_ = l.at_ ∧ l.closed.size = l.size ∧ l.closed.last = l.last := by
  have hf := h.few
  unfold Lg.closed
  split
  · exact ⟨hf.2.1, by omega, rfl, rfl, rfl⟩
  · rename_i ho
    have h1 : (l.seal l.open_.size).sealed.length = l.sealed.length + 1 := by
      show (l.sealed ++ [_]).length = _
      rw [List.length_append]; rfl
    rw [h1]
    exact ⟨by have := hf.2.2 ho; omega, Nat.le_refl _, rfl, rfl, rfl⟩
theorem LStep.flush {w wr : World} {gl gd : Nat} {F : Nat → Prop} {l : Lg} {d : Dsk} {M : Nat} (h : LStep w gl gd F l d M wr) (hi : l.Inv) (hfi : l.fin ≤ 18446744073709551615) (hop : d.ops + 1000 < 9223372036854775806) (hN : M + 10000 < 1000000000000) :
    Calls Try.prog 126 #[.pointer (some ⟨gl, 0, none⟩)] wr fun e w' => e = .returned (.int .i64 (flushR l d).1) ∧ LStep w gl gd F (flushR l d).2.1 (flushR l d).2.2 (M + 4000) w' := by
  have hcl := closed_len hi
  have hck := closed_ok hi hfi
  have hfew := hi.few
  have ha := hi.at_
  have hz := hi.size
  unfold flushR
  have main : Calls Try.prog 126 #[.pointer (some ⟨gl, 0, none⟩)] wr fun e w' => e = .returned (.int .i64 (flushC l.closed d).1) ∧ LStep w gl gd F (flushC l.closed d).2.1 (flushC l.closed d).2.2 (M + 4 * (l.closed.sealed.length + 1)) w' := by
    by_cases ho : l.open_.size = 0
    · have e1 : l.closed = l := by unfold Lg.closed; rw [if_pos ho]
      rw [e1] at hcl hck ⊢
      exact flush_shut w wr gl gd F l d M h ho (by omega) hck ha (by omega) (by omega) (by omega) (by omega)
    · have e1 : l.closed = l.seal l.open_.size := by unfold Lg.closed; rw [if_neg ho]
      exact flush_open w wr gl gd F l l.closed d M h ho e1 (by omega) ⟨hi.fin, hfi⟩ hi.next (by have := hi.op; omega) (by omega) hck (by rw [hcl.2.2.1]; exact ha) (by rw [hcl.2.2.2.1]; omega) (by rw [hcl.2.2.2.2]; omega) (by omega) (by omega)
  refine main.mono ?_
  rintro e w' ⟨rfl, q⟩
  exact ⟨rfl, q.grow (by omega) (by omega)⟩
theorem LStep.dur {w wr : World} {gl gd : Nat} {F : Nat → Prop} {l : Lg} {d : Dsk} {M : Nat} (h : LStep w gl gd F l d M wr) : Calls Try.prog 13 #[.pointer (some ⟨gl, 0, none⟩)] wr fun e w' => e = .returned (.int .u64 l.dur) ∧ LStep w gl gd F l d M w' := by
  have h0 := h
  obtain ⟨vl, vs, L, h1, h2, h3⟩ := h
  exact (dur_any gl _ vl vs l wr h1.row).mono (by rintro e w' ⟨rfl, q⟩; exact ⟨rfl, h0.below q⟩)
theorem tick_seen (d : Dsk) (k b : Int) : (d.tick k).seen b = d.seen b := rfl
theorem synced_seen (d : Dsk) (b : Int) : d.synced.seen b = d.seen b := rfl
theorem wrote_pend (d : Dsk) (c : Int) (x : List Int) : (d.wrote c x 4).pend = d.pend ++ [(c, 0, cut x 0), (c, 1, cut x 1), (c, 2, cut x 2), (c, 3, cut x 3)] := by simp [Dsk.wrote, Dsk.push]
theorem wrote_other (d : Dsk) (c b : Int) (x : List Int) (h : b ≠ c) : (d.wrote c x 4).seen b = d.seen b := by
  unfold Dsk.seen
  rw [wrote_sure, wrote_pend, over_append, block_out]
  intro q hq
  simp at hq
  rcases hq with rfl | rfl | rfl | rfl <;> exact fun h' => h h'.symm
theorem new_well (n : Nat) : Well (Dsk.new n) n 0 := ⟨rfl, rfl, rfl, fun _ => rfl, by simp [Dsk.new], by simp [Dsk.new]⟩
theorem new_seen (n : Nat) (b : Int) : (Dsk.new n).seen b = zs 256 := by
  show blk (fun i => ((Dsk.new n).sure.get b (i : Int))) 4 = _
  have : (fun i : Nat => ((Dsk.new n).sure.get b (i : Int))) = fun _ => zs 64 := by funext i; rfl
  rw [this]
  decide +kernel
def putB (a z : Int) : (Int → List Int) → List Ck.O → Int → List Int
  | f, [] => f
  | f, c :: cs => putB a z (fun b => if b = placeV a z c.num then blkC c else f b) cs
theorem putB_append (a z : Int) (l2 : List Ck.O) : ∀ (l1 : List Ck.O) (f : Int → List Int), putB a z f (l1 ++ l2) = putB a z (putB a z f l1) l2
  | [], f => rfl
  | c :: l1, f => putB_append a z l2 l1 _
theorem wrS_well {a z : Int} {n : Nat} : ∀ (cs : List Ck.O) (d : Dsk) (k : Int), Well d n k → (∀ c ∈ cs, 0 ≤ placeV a z c.num ∧ placeV a z c.num < n) → ∃ d', wrS a z cs d = (0, d') ∧ Well d' n (k + cs.length) ∧ (∀ b, d'.seen b = putB a z d.seen cs b)
  | [], d, k, h, _ => ⟨d, rfl, h.mono (by simp), fun _ => rfl⟩
  | c :: cs, d, k, h, hp => by
    have e := writ_well h (placeV a z c.num) (hp c (List.mem_cons_self)) (blkC c)
    have hw := (h.tick).wrote (placeV a z c.num) (blkC c)
    obtain ⟨d', h1, h2, h3⟩ := wrS_well cs _ _ hw (fun c' hc => hp c' (List.mem_cons_of_mem _ hc))
    refine ⟨d', ?_, h2.mono (by simp; omega), fun b => ?_⟩
    · rw [wrS_cons, e]; exact h1
    · rw [h3 b]
      show putB a z _ cs b = putB a z _ cs b
      congr 1
      funext b'
      by_cases hb : b' = placeV a z c.num
      · rw [if_pos hb, hb, wrote_seen _ _ _ (blkC_length c)]
      · rw [if_neg hb, wrote_other _ _ _ _ hb, tick_seen]
theorem layR_well {a z : Int} {n : Nat} (cs : List Ck.O) (d : Dsk) (k : Int) (h : Well d n k) (hp : ∀ c ∈ cs, 0 ≤ placeV a z c.num ∧ placeV a z c.num < n) : ∃ d', layR a z cs d = (0, d') ∧ Well d' n (k + cs.length + 1) ∧ (∀ b, d'.seen b = putB a z d.seen cs b) ∧ (cs = [] → d' = d) ∧ (cs ≠ [] → d'.pend = []) := by
  by_cases hc : cs = []
  · refine ⟨d, by unfold layR; rw [if_pos hc], h.mono (by omega), fun b => by rw [hc]; rfl, fun _ => rfl, fun q => absurd hc q⟩
  · obtain ⟨d', h1, h2, h3⟩ := wrS_well cs d k h hp
    have e := sync_well h2
    refine ⟨_, by unfold layR; rw [if_neg hc, h1, if_pos rfl]; exact e, h2.tick.synced, fun b => ?_, fun q => absurd q hc, fun _ => rfl⟩
    rw [synced_seen, tick_seen]; exact h3 b
def Lg.fl (l : Lg) : Lg := (if l.closed.fresh = true ∧ l.closed.sealed ≠ [] then { l.closed with fresh := false } else l.closed).flushed
theorem flush_well {n : Nat} (l : Lg) (d : Dsk) (k : Int) (h : Well d n k) (hp : ∀ c ∈ l.closed.sealed, 0 ≤ placeV l.at_ l.size c.num ∧ placeV l.at_ l.size c.num < n) (ha : l.closed.at_ = l.at_) (hz : l.closed.size = l.size) :
    ∃ d', flushR l d = (0, l.fl, d') ∧ Well d' n (k + l.closed.sealed.length + 2) ∧ (∀ b, d'.seen b = putB l.at_ l.size d.seen l.closed.sealed b) ∧ (l.closed.sealed = [] → d' = d) ∧ (l.closed.sealed ≠ [] → d'.pend = []) := by
  unfold flushR flushC Lg.fl
  by_cases hc : l.closed.fresh = true ∧ l.closed.sealed ≠ []
  · rw [if_pos hc, if_pos hc, ha, hz]
    have hp1 : ∀ c ∈ l.closed.sealed.take 1, 0 ≤ placeV l.at_ l.size c.num ∧ placeV l.at_ l.size c.num < n := fun c hq => hp c (List.mem_of_mem_take hq)
    have hp2 : ∀ c ∈ l.closed.sealed.drop 1, 0 ≤ placeV l.at_ l.size c.num ∧ placeV l.at_ l.size c.num < n := fun c hq => hp c (List.mem_of_mem_drop hq)
    obtain ⟨d1, e1, w1, s1, _, p1⟩ := layR_well _ d k h hp1
    obtain ⟨d2, e2, w2, s2, q2, p2⟩ := layR_well _ d1 _ w1 hp2
    refine ⟨d2, ?_, w2.mono ?_, fun b => ?_, fun q => absurd q hc.2, fun _ => ?_⟩
    · rw [e1]
      simp only [if_pos]
      unfold restR
      simp only [ha, hz, e2, if_pos]
    · have : (l.closed.sealed.take 1).length + (l.closed.sealed.drop 1).length = l.closed.sealed.length := by rw [← List.length_append, List.take_append_drop]
      omega
    · rw [s2 b]
      have : (d1.seen : Int → List Int) = putB l.at_ l.size d.seen (l.closed.sealed.take 1) := funext s1
      rw [this, ← putB_append, List.take_append_drop]
    · by_cases hd : l.closed.sealed.drop 1 = []
      · rw [q2 hd]
        refine p1 (fun q => hc.2 ?_)
        have := List.take_append_drop 1 l.closed.sealed
        rw [q, hd] at this; exact this.symm
      · exact p2 hd
  · rw [if_neg hc, if_neg hc]
    unfold restR
    rw [List.drop_zero, ha, hz]
    obtain ⟨d2, e2, w2, s2, q2, p2⟩ := layR_well _ d k h hp
    exact ⟨d2, by rw [e2]; rfl, w2.mono (by omega), s2, q2, p2⟩
theorem read_well {d : Dsk} {n : Nat} {k : Int} (h : Well d n k) (b : Int) (hb : 0 ≤ b ∧ b < n) : read d b = (d.seen b, 0, d.tick (d.ops + 1)) := by
  have ha : ask d b = (0, d.tick (d.ops + 1)) := by
    unfold ask
    rw [if_neg (by rw [h.on]; simp), if_pos (by rw [h.size]; exact hb)]; exact count_well h
  unfold read
  rw [ha]; rfl
theorem place_in (a z : Int) (n : Nat) (x : Int) (h : okR a z n = true) : 0 ≤ placeV a z x ∧ placeV a z x < n := by
  have hb3 : 0 ≤ a ∧ 1 ≤ z ∧ a ≤ n - z := by unfold okR at h; simp only [Bool.and_eq_true, decide_eq_true_eq] at h; exact h
  unfold placeV
  have h1 := Int.emod_nonneg x (show z ≠ 0 by omega)
  have h2 := Int.emod_lt_of_pos x (show 0 < z by omega)
  omega
structure CL (w : World) (F : Nat → Prop) (gc gd gl gk ak : Nat) (s : Cs) (l : Lg) (d : Dsk) (M : Int) (N : Nat) : Prop where
  ex : ∃ fv m n vl vs L, CA w gc gd gl gk ak fv m n s M ∧ LD w gl gd vl vs L l d N ∧ (∀ j, lfoot gl gd vl vs L j → ¬ cfoot gc gk ak fv m j) ∧ (∀ j, lfoot gl gd vl vs L j ∨ cfoot gc gk ak fv m j → F j)
  ok : s.Ok
  lt : ∀ j, F j → j < w.heap.size
theorem CL.off {F G : Nat → Prop} {w w' : World} {gc gd gl gk ak : Nat} {s : Cs} {l : Lg} {d : Dsk} {M : Int} {N : Nat} (c : CL w F gc gd gl gk ak s l d M N) (ho : Off G w w') (hG : ∀ k, F k → ¬ G k) : CL w' F gc gd gl gk ak s l d M N := by
  obtain ⟨fv, m, n, vl, vs, L, h1, h2, h3, h4⟩ := c.ex
  exact ⟨⟨fv, m, n, vl, vs, L, h1.off ho (fun k q => hG k (h4 k (Or.inr q))), h2.off ho (fun k q => hG k (h4 k (Or.inl q))), h3, h4⟩, c.ok, fun j q => Nat.lt_of_lt_of_le (c.lt j q) ho.size⟩
theorem CL.below {F : Nat → Prop} {w w' : World} {gc gd gl gk ak : Nat} {s : Cs} {l : Lg} {d : Dsk} {M : Int} {N : Nat} (c : CL w F gc gd gl gk ak s l d M N) (hb : Below w.heap.size w w') : CL w' F gc gd gl gk ak s l d M N :=
  c.off (G := fun _ => False) (Off.of_below hb) fun _ _ q => q
def CStep (w : World) (F : Nat → Prop) (gc gd gl gk ak : Nat) (s : Cs) (l : Lg) (d : Dsk) (M : Int) (N : Nat) (w' : World) : Prop := Off F w w' ∧ ∃ F', CL w' F' gc gd gl gk ak s l d M N ∧ ∀ k, k < w.heap.size → F' k → F k
theorem CStep.same {F : Nat → Prop} {w w' : World} {gc gd gl gk ak : Nat} {s : Cs} {l : Lg} {d : Dsk} {M : Int} {N : Nat} (c : CL w F gc gd gl gk ak s l d M N) (hb : Below w.heap.size w w') : CStep w F gc gd gl gk ak s l d M N w' := ⟨Off.of_below hb, F, c.below hb, fun _ _ h => h⟩
theorem CStep.behind {F : Nat → Prop} {w w' w2 : World} {gc gd gl gk ak : Nat} {s : Cs} {l : Lg} {d : Dsk} {M : Int} {N : Nat} (c : CStep w F gc gd gl gk ak s l d M N w') (hb : Below w'.heap.size w' w2) : CStep w F gc gd gl gk ak s l d M N w2 := by
  obtain ⟨o, F', h, k⟩ := c
  exact ⟨o.trans (Off.of_below (F := fun _ => False) hb) (fun _ q => q.elim), F', h.below hb, k⟩
theorem CStep.trans {F : Nat → Prop} {w w1 w2 : World} {gc gd gl gk ak : Nat} {s s' : Cs} {l l' : Lg} {d d' : Dsk} {M M' : Int} {N N' : Nat} (hF : ∀ k, F k → k < w.heap.size) (o : Off F w w1) {F1 : Nat → Prop} (hF1 : ∀ k, k < w.heap.size → F1 k → F k) (h : CStep w1 F1 gc gd gl gk ak s l d M N w2) : CStep w F gc gd gl gk ak s l d M N w2 := by
  obtain ⟨o2, F2, c2, k2⟩ := h
  refine ⟨o.trans o2 (fun j q => ?_), F2, c2, fun j hj q => hF1 j hj (k2 j (Nat.lt_of_lt_of_le hj o.size) q)⟩
  rcases Nat.lt_or_ge j w.heap.size with y | y
  · exact Or.inl (hF1 j y q)
  · exact Or.inr y
set_option maxHeartbeats 1000000 in
theorem find_any {w : World} {gc gd gl gk ak : Nat} {fv : Value} {m n : Nat} {s : Cs} {M : Int} (c : CA w gc gd gl gk ak fv m n s M) (u : Bool) (k : Int) (hk : WfU k) : Calls Try.prog 56 #[.pointer (some ⟨gc, 0, none⟩), idv u k] w fun e w' => e = .returned (.tuple #[.int .i64 ((whereF s.fs u k).getD 0), .bool (whereF s.fs u k).isSome]) ∧ Below w.heap.size w w' := by
  unfold idv
  have HLK0 : Hid (∀ W, WMap W m n (whereF s.fs) → (Instr.lookup 115 (.map (some m)) (.agg #[.bool u, .int .u16 k]) true).run Try.prog W = .ok (.tuple #[.int .i64 ((whereF s.fs u k).getD 0), .bool (whereF s.fs u k).isSome]) W) := fun W h => h.look_ok hk
  obtain ⟨V, HV⟩ : ∃ V, Hid ((whereF s.fs u k).getD 0 = V) := ⟨_, rfl⟩
  obtain ⟨B, HB⟩ : ∃ B, Hid ((whereF s.fs u k).isSome = B) := ⟨_, rfl⟩
  have HLK : Hid (∀ W, WMap W m n (whereF s.fs) → (Instr.lookup 115 (.map (some m)) (.agg #[.bool u, .int .u16 k]) true).run Try.prog W = .ok (.tuple #[.int .i64 V, .bool B]) W) := by
    have := HLK0.out
    rw [HV.out, HB.out] at this
    exact this
  rw [HV.out, HB.out]
  obtain ⟨PP, HPP⟩ : ∃ PP : Ending → World → Prop, Hid (PP = fun e w' => e = .returned (.tuple #[.int .i64 V, .bool B]) ∧ Below w.heap.size w w') := ⟨_, rfl⟩
  rw [← HPP.out]
  have r0 : Row (w.alloc (.cells #[.bool u, .int .u16 k] 31)) w.heap.size #[.bool u, .int .u16 k] 31 := Row.new _ _ _
  have ab : Below w.heap.size w (w.alloc (.cells #[.bool u, .int .u16 k] 31)) := (Below.refl _ _).alloc (Nat.le_refl _) _
  have cr := c.row.below ab c.row.lt
  have cm := c.map.off (Off.of_below (F := fun _ => False) ab) (fun q => q)
  clear HLK0 c
  go_enter Try.func56, Try.ntmps56
  go_upto_region 3 with fail
  generalize w.alloc (.cells #[.bool u, .int .u16 k] 31) = W at r0 ab cr cm ⊢
  obtain ⟨A0, HA0⟩ : ∃ A0, Hid (w.heap.size = A0) := ⟨_, rfl⟩
  rw [HA0.out] at r0 ⊢
  refine wp_region_held_drew (S := fun w' => Row w' gc #[.pointer (some ⟨gd, 0, none⟩), .iface 24 (.pointer (some ⟨gl, 0, none⟩)), .pointer (some ⟨gk, 0, none⟩), .int .i64 s.pages, .int .i64 s.undo, .int .i64 s.most, fv, .map (some m)] 117 ∧ Row w' A0 #[.bool u, .int .u16 k] 31 ∧ WMap w' m n (whereF s.fs) ∧ Below w.heap.size w w') (by kernel_rfl) ⟨cr, r0, cm, ab.drew⟩ fun hS => ?_
  clear cr r0 cm ab
  refine tkI (i := 0) (v := .pointer (some ⟨gc, 0, none⟩)) rfl (Or.inl ⟨by rfl, fun w _ => by rfl⟩) hS ?_
  try simp only [Act.put, nz]
  refine tkI (i := 1) (v := .pointer (some ⟨gc, 0, none⟩)) rfl (Or.inl ⟨by rfl, fun w _ => by go_simp⟩) hS ?_
  try simp only [Act.put, nz]
  refine tkI (i := 2) (v := .pointer (some ⟨gc, 7, none⟩)) rfl (Or.inl ⟨by rfl, fun w _ => by go_simp⟩) hS ?_
  try simp only [Act.put, nz]
  refine tkI (i := 3) (v := .map (some m)) rfl (Or.inl ⟨by rfl, fun w h => by have c := row_at h.1 7 _ rfl; go_simp⟩) hS ?_
  try simp only [Act.put, nz]
  refine tkI (i := 4) (v := .agg #[.bool u, .int .u16 k]) rfl (yields_cells (by rfl) 31 (.tmp 3) rfl A0 rfl 31 #[.bool u, .int .u16 k] (fun w h => h.2.1) 2 Try.underlying31 rfl size31 rfl) hS ?_
  try simp only [Act.put, nz]
  refine tkI (i := 5) (v := .tuple #[.int .i64 V, .bool B]) rfl (Or.inl ⟨by rfl, fun w h => by have c := HLK.out w h.2.2.1; go_simp⟩) hS ?_
  try simp only [Act.put, nz]
  refine tkI (i := 6) (v := .tuple #[.int .i64 V, .bool B]) rfl (Or.inl ⟨by rfl, fun w _ => by rfl⟩) hS ?_
  try simp only [Act.put, nz]
  refine tkI (i := 7) (v := .int .i64 V) rfl (Or.inl ⟨by rfl, fun w _ => by go_simp⟩) hS ?_
  try simp only [Act.put, nz]
  refine tkI (i := 8) (v := .bool B) rfl (Or.inl ⟨by rfl, fun w _ => by go_simp⟩) hS ?_
  try simp only [Act.put, nz]
  refine tkI (i := 9) (v := .int .i64 V) rfl (Or.inl ⟨by rfl, fun w _ => by go_simp⟩) hS ?_
  try simp only [Act.put, nz]
  refine tkI (i := 10) (v := .bool B) rfl (Or.inl ⟨by rfl, fun w _ => by go_simp⟩) hS ?_
  try simp only [Act.put, nz]
  refine wpAnyH_done (by kernel_rfl) ?_ _
  go_wp2
  rw [HPP.out]
  exact ⟨rfl, hS.2.2.2⟩
def isC (s : Cs) (u : Bool) (k : Int) : Bool := if u = true then decide (k < s.undo) else decide (k < s.pages)
set_option maxHeartbeats 1000000 in
theorem chas_any {w : World} {gc gd gl gk ak : Nat} {fv : Value} {m n : Nat} {s : Cs} {M : Int} (c : CA w gc gd gl gk ak fv m n s M) (u : Bool) (k : Int) (hk : WfU k) : Calls Try.prog 45 #[.pointer (some ⟨gc, 0, none⟩), idv u k] w fun e w' => e = .returned (.bool (isC s u k)) ∧ Below w.heap.size w w' := by
  unfold idv
  have hb := wfu hk
  have w0 : IntKind.i64.wrap k = k := by rw [IntKind.wrap_i64]; omega
  obtain ⟨PP, HPP⟩ : ∃ PP : Ending → World → Prop, Hid (PP = fun e w' => e = .returned (.bool (isC s u k)) ∧ Below w.heap.size w w') := ⟨_, rfl⟩
  rw [← HPP.out]
  have r0 : Row (w.alloc (.cells #[.bool u, .int .u16 k] 31)) w.heap.size #[.bool u, .int .u16 k] 31 := Row.new _ _ _
  have ab : Below w.heap.size w (w.alloc (.cells #[.bool u, .int .u16 k] 31)) := (Below.refl _ _).alloc (Nat.le_refl _) _
  have cr := c.row.below ab c.row.lt
  have e0 := row_at r0 0 _ rfl
  clear c
  cases u with
  | true =>
    by_cases hlt : k < (s.undo : Int)
    · have kk : k < (s.undo : Int) := hlt
      have HF : Hid (isC s true k = true) := by show isC s true k = true; unfold isC; simp [kk]
      go_enter Try.func45, Try.ntmps45
      go_upto_region 4 with fail
      generalize w.alloc (.cells #[.bool true, .int .u16 k] 31) = W at r0 ab cr ⊢
      obtain ⟨A0, HA0⟩ : ∃ A0, Hid (w.heap.size = A0) := ⟨_, rfl⟩
      rw [HA0.out] at r0 ⊢
      refine wp_region_held_drew (S := fun w' => Row w' gc #[.pointer (some ⟨gd, 0, none⟩), .iface 24 (.pointer (some ⟨gl, 0, none⟩)), .pointer (some ⟨gk, 0, none⟩), .int .i64 s.pages, .int .i64 s.undo, .int .i64 s.most, fv, .map (some m)] 117 ∧ Row w' A0 #[.bool true, .int .u16 k] 31 ∧ Below w.heap.size w w') (by kernel_rfl) ⟨cr, r0, ab.drew⟩ fun hS => ?_
      clear cr r0 ab e0
      refine tkI (i := 0) (v := .pointer (some ⟨A0, 1, none⟩)) rfl (Or.inl ⟨by rfl, fun w _ => by go_simp⟩) hS ?_
      try simp only [Act.put, nz]
      refine tkI (i := 1) (v := .int .u16 k) rfl (Or.inl ⟨by rfl, fun w h => by have c := row_at h.2.1 1 _ rfl; go_simp⟩) hS ?_
      try simp only [Act.put, nz]
      refine tkI (i := 2) (v := .int .i64 k) rfl (Or.inl ⟨by rfl, fun w _ => by go_simp⟩) hS ?_
      try simp only [Act.put, nz]
      refine tkI (i := 3) (v := .pointer (some ⟨gc, 0, none⟩)) rfl (Or.inl ⟨by rfl, fun w _ => by rfl⟩) hS ?_
      try simp only [Act.put, nz]
      refine tkI (i := 4) (v := .pointer (some ⟨gc, 0, none⟩)) rfl (Or.inl ⟨by rfl, fun w _ => by go_simp⟩) hS ?_
      try simp only [Act.put, nz]
      refine tkI (i := 5) (v := .pointer (some ⟨gc, 4, none⟩)) rfl (Or.inl ⟨by rfl, fun w _ => by go_simp⟩) hS ?_
      try simp only [Act.put, nz]
      refine tkI (i := 6) (v := .int .i64 s.undo) rfl (Or.inl ⟨by rfl, fun w h => by have c := row_at h.1 4 _ rfl; go_simp⟩) hS ?_
      try simp only [Act.put, nz]
      refine tkI (i := 7) (v := .bool true) rfl (Or.inl ⟨by rfl, fun w _ => by go_simp⟩) hS ?_
      try simp only [Act.put, nz]
      refine tkI (i := 8) (v := .bool true) rfl (Or.inl ⟨by rfl, fun w _ => by go_simp⟩) hS ?_
      try simp only [Act.put, nz]
      refine wpAnyH_done (by kernel_rfl) ?_ _
      go_wp2
      rw [HPP.out]
      exact ⟨by rw [HF.out] <;> rfl, hS.2.2⟩
    · have kk : ¬ k < (s.undo : Int) := hlt
      have HF : Hid (isC s true k = false) := by show isC s true k = false; unfold isC; simp [kk]
      go_enter Try.func45, Try.ntmps45
      go_upto_region 4 with fail
      generalize w.alloc (.cells #[.bool true, .int .u16 k] 31) = W at r0 ab cr ⊢
      obtain ⟨A0, HA0⟩ : ∃ A0, Hid (w.heap.size = A0) := ⟨_, rfl⟩
      rw [HA0.out] at r0 ⊢
      refine wp_region_held_drew (S := fun w' => Row w' gc #[.pointer (some ⟨gd, 0, none⟩), .iface 24 (.pointer (some ⟨gl, 0, none⟩)), .pointer (some ⟨gk, 0, none⟩), .int .i64 s.pages, .int .i64 s.undo, .int .i64 s.most, fv, .map (some m)] 117 ∧ Row w' A0 #[.bool true, .int .u16 k] 31 ∧ Below w.heap.size w w') (by kernel_rfl) ⟨cr, r0, ab.drew⟩ fun hS => ?_
      clear cr r0 ab e0
      refine tkI (i := 0) (v := .pointer (some ⟨A0, 1, none⟩)) rfl (Or.inl ⟨by rfl, fun w _ => by go_simp⟩) hS ?_
      try simp only [Act.put, nz]
      refine tkI (i := 1) (v := .int .u16 k) rfl (Or.inl ⟨by rfl, fun w h => by have c := row_at h.2.1 1 _ rfl; go_simp⟩) hS ?_
      try simp only [Act.put, nz]
      refine tkI (i := 2) (v := .int .i64 k) rfl (Or.inl ⟨by rfl, fun w _ => by go_simp⟩) hS ?_
      try simp only [Act.put, nz]
      refine tkI (i := 3) (v := .pointer (some ⟨gc, 0, none⟩)) rfl (Or.inl ⟨by rfl, fun w _ => by rfl⟩) hS ?_
      try simp only [Act.put, nz]
      refine tkI (i := 4) (v := .pointer (some ⟨gc, 0, none⟩)) rfl (Or.inl ⟨by rfl, fun w _ => by go_simp⟩) hS ?_
      try simp only [Act.put, nz]
      refine tkI (i := 5) (v := .pointer (some ⟨gc, 4, none⟩)) rfl (Or.inl ⟨by rfl, fun w _ => by go_simp⟩) hS ?_
      try simp only [Act.put, nz]
      refine tkI (i := 6) (v := .int .i64 s.undo) rfl (Or.inl ⟨by rfl, fun w h => by have c := row_at h.1 4 _ rfl; go_simp⟩) hS ?_
      try simp only [Act.put, nz]
      refine tkI (i := 7) (v := .bool false) rfl (Or.inl ⟨by rfl, fun w _ => by go_simp⟩) hS ?_
      try simp only [Act.put, nz]
      refine tkI (i := 8) (v := .bool false) rfl (Or.inl ⟨by rfl, fun w _ => by go_simp⟩) hS ?_
      try simp only [Act.put, nz]
      refine wpAnyH_done (by kernel_rfl) ?_ _
      go_wp2
      rw [HPP.out]
      exact ⟨by rw [HF.out] <;> rfl, hS.2.2⟩
  | false =>
    by_cases hlt : k < (s.pages : Int)
    · have kk : k < (s.pages : Int) := hlt
      have HF : Hid (isC s false k = true) := by show isC s false k = true; unfold isC; simp [kk]
      go_enter Try.func45, Try.ntmps45
      go_upto_region 5 with fail
      generalize w.alloc (.cells #[.bool false, .int .u16 k] 31) = W at r0 ab cr ⊢
      obtain ⟨A0, HA0⟩ : ∃ A0, Hid (w.heap.size = A0) := ⟨_, rfl⟩
      rw [HA0.out] at r0 ⊢
      refine wp_region_held_drew (S := fun w' => Row w' gc #[.pointer (some ⟨gd, 0, none⟩), .iface 24 (.pointer (some ⟨gl, 0, none⟩)), .pointer (some ⟨gk, 0, none⟩), .int .i64 s.pages, .int .i64 s.undo, .int .i64 s.most, fv, .map (some m)] 117 ∧ Row w' A0 #[.bool false, .int .u16 k] 31 ∧ Below w.heap.size w w') (by kernel_rfl) ⟨cr, r0, ab.drew⟩ fun hS => ?_
      clear cr r0 ab e0
      refine tkI (i := 0) (v := .pointer (some ⟨A0, 1, none⟩)) rfl (Or.inl ⟨by rfl, fun w _ => by go_simp⟩) hS ?_
      try simp only [Act.put, nz]
      refine tkI (i := 1) (v := .int .u16 k) rfl (Or.inl ⟨by rfl, fun w h => by have c := row_at h.2.1 1 _ rfl; go_simp⟩) hS ?_
      try simp only [Act.put, nz]
      refine tkI (i := 2) (v := .int .i64 k) rfl (Or.inl ⟨by rfl, fun w _ => by go_simp⟩) hS ?_
      try simp only [Act.put, nz]
      refine tkI (i := 3) (v := .pointer (some ⟨gc, 0, none⟩)) rfl (Or.inl ⟨by rfl, fun w _ => by rfl⟩) hS ?_
      try simp only [Act.put, nz]
      refine tkI (i := 4) (v := .pointer (some ⟨gc, 0, none⟩)) rfl (Or.inl ⟨by rfl, fun w _ => by go_simp⟩) hS ?_
      try simp only [Act.put, nz]
      refine tkI (i := 5) (v := .pointer (some ⟨gc, 3, none⟩)) rfl (Or.inl ⟨by rfl, fun w _ => by go_simp⟩) hS ?_
      try simp only [Act.put, nz]
      refine tkI (i := 6) (v := .int .i64 s.pages) rfl (Or.inl ⟨by rfl, fun w h => by have c := row_at h.1 3 _ rfl; go_simp⟩) hS ?_
      try simp only [Act.put, nz]
      refine tkI (i := 7) (v := .bool true) rfl (Or.inl ⟨by rfl, fun w _ => by go_simp⟩) hS ?_
      try simp only [Act.put, nz]
      refine tkI (i := 8) (v := .bool true) rfl (Or.inl ⟨by rfl, fun w _ => by go_simp⟩) hS ?_
      try simp only [Act.put, nz]
      refine wpAnyH_done (by kernel_rfl) ?_ _
      go_wp2
      rw [HPP.out]
      exact ⟨by rw [HF.out] <;> rfl, hS.2.2⟩
    · have kk : ¬ k < (s.pages : Int) := hlt
      have HF : Hid (isC s false k = false) := by show isC s false k = false; unfold isC; simp [kk]
      go_enter Try.func45, Try.ntmps45
      go_upto_region 5 with fail
      generalize w.alloc (.cells #[.bool false, .int .u16 k] 31) = W at r0 ab cr ⊢
      obtain ⟨A0, HA0⟩ : ∃ A0, Hid (w.heap.size = A0) := ⟨_, rfl⟩
      rw [HA0.out] at r0 ⊢
      refine wp_region_held_drew (S := fun w' => Row w' gc #[.pointer (some ⟨gd, 0, none⟩), .iface 24 (.pointer (some ⟨gl, 0, none⟩)), .pointer (some ⟨gk, 0, none⟩), .int .i64 s.pages, .int .i64 s.undo, .int .i64 s.most, fv, .map (some m)] 117 ∧ Row w' A0 #[.bool false, .int .u16 k] 31 ∧ Below w.heap.size w w') (by kernel_rfl) ⟨cr, r0, ab.drew⟩ fun hS => ?_
      clear cr r0 ab e0
      refine tkI (i := 0) (v := .pointer (some ⟨A0, 1, none⟩)) rfl (Or.inl ⟨by rfl, fun w _ => by go_simp⟩) hS ?_
      try simp only [Act.put, nz]
      refine tkI (i := 1) (v := .int .u16 k) rfl (Or.inl ⟨by rfl, fun w h => by have c := row_at h.2.1 1 _ rfl; go_simp⟩) hS ?_
      try simp only [Act.put, nz]
      refine tkI (i := 2) (v := .int .i64 k) rfl (Or.inl ⟨by rfl, fun w _ => by go_simp⟩) hS ?_
      try simp only [Act.put, nz]
      refine tkI (i := 3) (v := .pointer (some ⟨gc, 0, none⟩)) rfl (Or.inl ⟨by rfl, fun w _ => by rfl⟩) hS ?_
      try simp only [Act.put, nz]
      refine tkI (i := 4) (v := .pointer (some ⟨gc, 0, none⟩)) rfl (Or.inl ⟨by rfl, fun w _ => by go_simp⟩) hS ?_
      try simp only [Act.put, nz]
      refine tkI (i := 5) (v := .pointer (some ⟨gc, 3, none⟩)) rfl (Or.inl ⟨by rfl, fun w _ => by go_simp⟩) hS ?_
      try simp only [Act.put, nz]
      refine tkI (i := 6) (v := .int .i64 s.pages) rfl (Or.inl ⟨by rfl, fun w h => by have c := row_at h.1 3 _ rfl; go_simp⟩) hS ?_
      try simp only [Act.put, nz]
      refine tkI (i := 7) (v := .bool false) rfl (Or.inl ⟨by rfl, fun w _ => by go_simp⟩) hS ?_
      try simp only [Act.put, nz]
      refine tkI (i := 8) (v := .bool false) rfl (Or.inl ⟨by rfl, fun w _ => by go_simp⟩) hS ?_
      try simp only [Act.put, nz]
      refine wpAnyH_done (by kernel_rfl) ?_ _
      go_wp2
      rw [HPP.out]
      exact ⟨by rw [HF.out] <;> rfl, hS.2.2⟩
end Go.Proofs.Ytehogiondcpbcaa
