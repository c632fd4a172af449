/-
  Plain facts of disks: what is seen, what a crash keeps, and disks whose power stays. Proved here: each call of a log, over the log and its disk in memory: Append, Flush, Scan, End, Durable, Free, Tail, From. Plain facts: what Flush leaves on a disk whose power stays, and what Scan tells of it. A cache with its log and its disk, in memory. Proved here: what is told of a cache: has, find, Pins, Resident, Clean, Torn. Proved here: what is told of a cache: Pins, Resident, Clean, Torn.
-/
import Derived.Test.YtehogiondcpbcaaJq13
import Derived.Test.YtehogiondcpbcaaJq05
import Derived.Test.YtehogiondcpbcaaJq14
import Derived.Test.YtehogiondcpbcaaJq15
import Derived.Test.YtehogiondcpbcaaJq08
namespace Go.Proofs.Ytehogiondcpbcaa
open Go.ChangeShapes Go.WideShapes Go.ChangeAt Go.RowKit
set_option linter.unusedVariables false
set_option linter.unusedSimpArgs false
set_option maxRecDepth 20000
def Dsk.tick (d : Dsk) (k : Int) : Dsk := ⟨d.n, d.sure, d.pend, d.down, k, d.fuse, d.fails⟩
structure Well (d : Dsk) (n : Nat) (k : Int) : Prop where
  size : d.n = n
  fuse : d.fuse = 0
  on : d.down = false
  fails : ∀ i, d.fails i = false
  lo : 0 ≤ d.ops
  hi : d.ops ≤ k
theorem count_well {d : Dsk} {n : Nat} {k : Int} (h : Well d n k) : count d = (0, d.tick (d.ops + 1)) := by
  have h0 := h.lo
  unfold count
  rw [if_neg (by rw [h.fuse]; omega), if_neg (by rw [h.fails]; simp)]
  rfl
theorem Well.tick {d : Dsk} {n : Nat} {k : Int} (h : Well d n k) : Well (d.tick (d.ops + 1)) n (k + 1) :=
  ⟨h.size, h.fuse, h.on, h.fails, by have := h.lo; show 0 ≤ d.ops + 1; omega, by have := h.hi; show d.ops + 1 ≤ k + 1; omega⟩
theorem Well.wrote {d : Dsk} {n : Nat} {k : Int} (h : Well d n k) (b : Int) (x : List Int) : Well (d.wrote b x 4) n k := ⟨h.size, h.fuse, h.on, h.fails, h.lo, h.hi⟩
theorem Well.synced {d : Dsk} {n : Nat} {k : Int} (h : Well d n k) : Well d.synced n k := ⟨h.size, h.fuse, h.on, h.fails, h.lo, h.hi⟩
theorem Well.mono {d : Dsk} {n : Nat} {k l : Int} (h : Well d n k) (hl : k ≤ l) : Well d n l := ⟨h.size, h.fuse, h.on, h.fails, h.lo, by have := h.hi; omega⟩
theorem wrote_sure (d : Dsk) (b : Int) (x : List Int) : ∀ k, (d.wrote b x k).sure = d.sure
  | 0 => rfl
  | k + 1 => wrote_sure d b x k
theorem over_out : ∀ (ps : List (Int × Int × List Int)) (f : Secs) (b : Int), (∀ q ∈ ps, q.1 ≠ b) → ∀ s, over f ps b s = f b s
  | [], f, b, _, s => rfl
  | q :: r, f, b, h, s => by
    show over (f.put q.1 q.2.1 q.2.2) r b s = _
    rw [over_out r _ b (fun p hp => h p (List.mem_cons_of_mem _ hp)) s]
    unfold Secs.put
    rw [if_neg (fun e => h q (List.mem_cons_self ..) e.1.symm)]
theorem block_out (f : Secs) (ps : List (Int × Int × List Int)) (b : Int) (h : ∀ q ∈ ps, q.1 ≠ b) : (over f ps).block b = f.block b := by
  unfold Secs.block
  congr 1
  funext i
  unfold Secs.get
  rw [over_out ps f b h]
theorem seen_none (d : Dsk) (h : d.pend = []) (b : Int) : d.seen b = d.sure.block b := by unfold Dsk.seen; rw [h]; rfl
theorem LD.turn {w wr w' : World} {gl gd : Nat} {F : Nat → Prop} {l l2 : Lg} {d : Dsk} {M : Nat} {vl vs vs2 : Value} {L : Loc} (h1 : LD wr gl gd vl vs L l d M) (h2 : Off F w wr) (h3 : ∀ j, lfoot gl gd vl vs L j → F j ∨ w.heap.size ≤ j)
    (k1 : Row w' gl (lcells (.pointer (some ⟨gd, 0, none⟩)) vl vs2 l2) 99) (k2 : Ck.Own w' (gl + 1) vs2 l2.sealed) (k3 : Off (fun j => j = gl ∨ vs.ownBlock = some j) wr w') (k4 : ∀ j, vs2.ownBlock = some j → vs.ownBlock = some j ∨ wr.heap.size ≤ j) (hl : l2.last = l.last) : LStep w gl gd F l2 d M w' := by
  have hU : OwnU w' (gl + 1) vl l2.last := by
    rw [hl]
    refine h1.last.off k3 (fun j q => ?_)
    rintro (q2 | q2)
    · have := (World.ownsRow.lt h1.last j q).1; omega
    · exact own_apartU h1.last h1.sld q q2
  refine ⟨vl, vs2, L, ⟨k1, hU, k2, h1.dsk.off k3 (fun j q => ?_), h1.ng, h1.nl, fun j q q2 => ?_⟩, h2.trans k3 (fun j q => ?_), fun j q => ?_⟩
  · rintro (q2 | q2)
    · subst q2; exact h1.ng q
    · exact h1.ns j q2 q
  · rcases k4 j q with q3 | q3
    · exact h1.ns j q3 q2
    · have := h1.dsk.lt q2; omega
  · rcases q with q | q
    · exact h3 j (Or.inl q)
    · exact h3 j (Or.inr (Or.inr (Or.inl q)))
  · rcases q with q | q | q | q
    · exact h3 j (Or.inl q)
    · exact h3 j (Or.inr (Or.inl q))
    · rcases k4 j q with q3 | q3
      · exact h3 j (Or.inr (Or.inr (Or.inl q3)))
      · have := h2.size; exact Or.inr (by omega)
    · exact h3 j (Or.inr (Or.inr (Or.inr q)))
theorem sealN_last (l : Lg) : ∀ k, (l.sealN k).last = l.last
  | 0 => rfl
  | k + 1 => sealN_last l k
theorem sealN_ep (l : Lg) : ∀ k, (l.sealN k).ep = l.ep
  | 0 => rfl
  | k + 1 => sealN_ep l k
theorem sealN_at (l : Lg) : ∀ k, (l.sealN k).at_ = l.at_
  | 0 => rfl
  | k + 1 => sealN_at l k
theorem sealN_size (l : Lg) : ∀ k, (l.sealN k).size = l.size
  | 0 => rfl
  | k + 1 => sealN_size l k
theorem sealN_dur (l : Lg) : ∀ k, (l.sealN k).dur = l.dur
  | 0 => rfl
  | k + 1 => sealN_dur l k
def okA (l : Lg) (s : ByteArray) : Bool := okF s && !fullA l (frS s)
def appE (l : Lg) (s : ByteArray) : Int := if okF s = true then if fullA l (frS s) = true then 5 else 0 else 1
def appA (l : Lg) (s : ByteArray) : Int := if okA l s = true then l.fin else 0
def appL (l : Lg) (s : ByteArray) : Lg := if okA l s = true then l.app (frS s) else l
theorem LStep.app {w wr : World} {gl gd : Nat} {F : Nat → Prop} {l : Lg} {d : Dsk} {M : Nat} (h : LStep w gl gd F l d M wr) (s : ByteArray) (hs : s.size ≤ maxLen) (hla : l.last.length ≤ 1000000) (hsl : l.sealed.length ≤ 800) (hop : l.open_.size ≤ 10000) (hf : (l.open_.size : Int) ≤ l.fin ∧ l.fin ≤ 9223372036854775807) (hx : 0 ≤ l.next ∧ l.next ≤ 4294967295) :
    Calls Try.prog 17 #[.pointer (some ⟨gl, 0, none⟩), .string s] wr fun e w' => e = .returned (.tuple #[.int .u64 (appA l s), .int .i64 (appE l s)]) ∧ LStep w gl gd F (appL l s) d M w' := by
  have h0 := h
  obtain ⟨vl, vs, L, h1, h2, h3⟩ := h
  refine (lapp_any wr gl _ vl vs l s h1.row h1.last h1.sld hs hla hsl hop hf hx).mono ?_
  rintro e w' ⟨q1, q2, q3⟩
  unfold appA appE appL okA
  cases hk : okF s with
  | false =>
    obtain ⟨rfl, hb⟩ := q1 hk
    exact ⟨rfl, h0.below hb⟩
  | true =>
    cases hu : fullA l (frS s) with
    | true =>
      obtain ⟨rfl, hb⟩ := q2 hk hu
      exact ⟨rfl, h0.below hb⟩
    | false =>
      obtain ⟨rfl, vs2, k1, k2, k3, k4⟩ := q3 hk hu
      exact ⟨rfl, h1.turn h2 h3 k1 k2 k3 k4 (sealN_last _ _)⟩
structure Lg.Inv (l : Lg) : Prop where
  at_ : 0 ≤ l.at_ ∧ l.at_ ≤ 4294967295
  size : 1 ≤ l.size ∧ l.size ≤ 700
  ep : 0 ≤ l.ep ∧ l.ep ≤ 4294967295
  next : 0 ≤ l.next ∧ l.next ≤ 4294967295
  op : l.open_.size < 214
  fin : (l.open_.size : Int) ≤ l.fin
  ok : ∀ c ∈ l.sealed, c.Ok
  room : (l.last.length : Int) + l.sealed.length + wantN l.open_.size ≤ l.size
theorem Lg.Inv.few {l : Lg} (h : l.Inv) : l.last.length ≤ 700 ∧ l.sealed.length ≤ 700 ∧ (l.open_.size ≠ 0 → l.sealed.length ≤ 699) := by
  have h1 := h.room
  have h2 := h.size
  have h3 : 0 ≤ wantN l.open_.size := by unfold wantN; omega
  refine ⟨by omega, by omega, fun hq => ?_⟩
  have h4 : 1 ≤ wantN l.open_.size := by unfold wantN; omega
  omega
theorem closed_ok {l : Lg} (h : l.Inv) (hf : l.fin ≤ 18446744073709551615) : ∀ c ∈ l.closed.sealed, c.Ok := by
  unfold Lg.closed
  split
  · exact h.ok
  · rename_i ho
    intro c hc
    rcases List.mem_append.1 hc with q | q
    · exact h.ok c q
    · obtain rfl := List.mem_singleton.1 q
      refine ⟨h.ep, h.next, ?_, ?_⟩
      · have := h.fin; show 0 ≤ l.fin - l.open_.size ∧ l.fin - l.open_.size ≤ _; omega
      · show okC (l.open_.extract 0 l.open_.size) = true
        unfold okC
        rw [ByteArray.size_extract]
        have := h.op
        exact decide_eq_true (by omega)
theorem closed_len {l : Lg} (h : l.Inv) : l.closed.sealed.length ≤ 700 ∧ l.closed.sealed.length ≤ l.sealed.length + 1 ∧ l.closed.at_ = l.at_ ∧ l.closed.size = l.size ∧ l.closed.last = l.last := by
  have hf := h.few
  unfold Lg.closed
  split
  · exact ⟨hf.2.1, by omega, rfl, rfl, rfl⟩
  · rename_i ho
    have h1 : (l.seal l.open_.size).sealed.length = l.sealed.length + 1 := by
      show (l.sealed ++ [_]).length = _
      rw [List.length_append]; rfl
    rw [h1]
    exact ⟨by have := hf.2.2 ho; omega, Nat.le_refl _, rfl, rfl, rfl⟩
theorem LStep.flush {w wr : World} {gl gd : Nat} {F : Nat → Prop} {l : Lg} {d : Dsk} {M : Nat} (h : LStep w gl gd F l d M wr) (hi : l.Inv) (hfi : l.fin ≤ 18446744073709551615) (hop : d.ops + 1000 < 9223372036854775806) (hN : M + 10000 < 1000000000000) :
    Calls Try.prog 126 #[.pointer (some ⟨gl, 0, none⟩)] wr fun e w' => e = .returned (.int .i64 (flushR l d).1) ∧ LStep w gl gd F (flushR l d).2.1 (flushR l d).2.2 (M + 4000) w' := by
  have hcl := closed_len hi
  have hck := closed_ok hi hfi
  have hfew := hi.few
  have ha := hi.at_
  have hz := hi.size
  unfold flushR
  have main : Calls Try.prog 126 #[.pointer (some ⟨gl, 0, none⟩)] wr fun e w' => e = .returned (.int .i64 (flushC l.closed d).1) ∧ LStep w gl gd F (flushC l.closed d).2.1 (flushC l.closed d).2.2 (M + 4 * (l.closed.sealed.length + 1)) w' := by
    by_cases ho : l.open_.size = 0
    · have e1 : l.closed = l := by unfold Lg.closed; rw [if_pos ho]
      rw [e1] at hcl hck ⊢
      exact flush_shut w wr gl gd F l d M h ho (by omega) hck ha (by omega) (by omega) (by omega) (by omega)
    · have e1 : l.closed = l.seal l.open_.size := by unfold Lg.closed; rw [if_neg ho]
      exact flush_open w wr gl gd F l l.closed d M h ho e1 (by omega) ⟨hi.fin, hfi⟩ hi.next (by have := hi.op; omega) (by omega) hck (by rw [hcl.2.2.1]; exact ha) (by rw [hcl.2.2.2.1]; omega) (by rw [hcl.2.2.2.2]; omega) (by omega) (by omega)
  refine main.mono ?_
  rintro e w' ⟨rfl, q⟩
  exact ⟨rfl, q.grow (by omega) (by omega)⟩
theorem LStep.dur {w wr : World} {gl gd : Nat} {F : Nat → Prop} {l : Lg} {d : Dsk} {M : Nat} (h : LStep w gl gd F l d M wr) : Calls Try.prog 13 #[.pointer (some ⟨gl, 0, none⟩)] wr fun e w' => e = .returned (.int .u64 l.dur) ∧ LStep w gl gd F l d M w' := by
  have h0 := h
  obtain ⟨vl, vs, L, h1, h2, h3⟩ := h
  exact (dur_any gl _ vl vs l wr h1.row).mono (by rintro e w' ⟨rfl, q⟩; exact ⟨rfl, h0.below q⟩)
theorem tick_seen (d : Dsk) (k b : Int) : (d.tick k).seen b = d.seen b := rfl
theorem wrote_pend (d : Dsk) (c : Int) (x : List Int) : (d.wrote c x 4).pend = d.pend ++ [(c, 0, cut x 0), (c, 1, cut x 1), (c, 2, cut x 2), (c, 3, cut x 3)] := by simp [Dsk.wrote, Dsk.push]
theorem wrote_other (d : Dsk) (c b : Int) (x : List Int) (h : b ≠ c) : (d.wrote c x 4).seen b = d.seen b := by
  unfold Dsk.seen
  rw [wrote_sure, wrote_pend, over_append, block_out]
  intro q hq
  simp at hq
  rcases hq with rfl | rfl | rfl | rfl <;> exact fun h' => h h'.symm
theorem new_well (n : Nat) : Well (Dsk.new n) n 0 := ⟨rfl, rfl, rfl, fun _ => rfl, by simp [Dsk.new], by simp [Dsk.new]⟩
theorem new_seen (n : Nat) (b : Int) : (Dsk.new n).seen b = zs 256 := by
  show blk (fun i => ((Dsk.new n).sure.get b (i : Int))) 4 = _
  have : (fun i : Nat => ((Dsk.new n).sure.get b (i : Int))) = fun _ => zs 64 := by funext i; rfl
  rw [this]
  decide +kernel
def putB (a z : Int) : (Int → List Int) → List Ck.O → Int → List Int
  | f, [] => f
  | f, c :: cs => putB a z (fun b => if b = placeV a z c.num then blkC c else f b) cs
theorem putB_append (a z : Int) (l2 : List Ck.O) : ∀ (l1 : List Ck.O) (f : Int → List Int), putB a z f (l1 ++ l2) = putB a z (putB a z f l1) l2
  | [], f => rfl
  | c :: l1, f => putB_append a z l2 l1 _
def Lg.fl (l : Lg) : Lg := (if l.closed.fresh = true ∧ l.closed.sealed ≠ [] then { l.closed with fresh := false } else l.closed).flushed
theorem read_well {d : Dsk} {n : Nat} {k : Int} (h : Well d n k) (b : Int) (hb : 0 ≤ b ∧ b < n) : read d b = (d.seen b, 0, d.tick (d.ops + 1)) := by
  have ha : ask d b = (0, d.tick (d.ops + 1)) := by
    unfold ask
    rw [if_neg (by rw [h.on]; simp), if_pos (by rw [h.size]; exact hb)]; exact count_well h
  unfold read
  rw [ha]; rfl
theorem place_in (a z : Int) (n : Nat) (x : Int) (h : okR a z n = true) : 0 ≤ placeV a z x ∧ placeV a z x < n := by
  have hb3 : 0 ≤ a ∧ 1 ≤ z ∧ a ≤ n - z := by unfold okR at h; simp only [Bool.and_eq_true, decide_eq_true_eq] at h; exact h
  unfold placeV
  have h1 := Int.emod_nonneg x (show z ≠ 0 by omega)
  have h2 := Int.emod_lt_of_pos x (show 0 < z by omega)
  omega
structure CL (w : World) (F : Nat → Prop) (gc gd gl gk ak : Nat) (s : Cs) (l : Lg) (d : Dsk) (M : Int) (N : Nat) : Prop where
  ex : ∃ fv m n vl vs L, CA w gc gd gl gk ak fv m n s M ∧ LD w gl gd vl vs L l d N ∧ (∀ j, lfoot gl gd vl vs L j → ¬ cfoot gc gk ak fv m j) ∧ (∀ j, lfoot gl gd vl vs L j ∨ cfoot gc gk ak fv m j → F j)
  ok : s.Ok
  lt : ∀ j, F j → j < w.heap.size
theorem CL.off {F G : Nat → Prop} {w w' : World} {gc gd gl gk ak : Nat} {s : Cs} {l : Lg} {d : Dsk} {M : Int} {N : Nat} (c : CL w F gc gd gl gk ak s l d M N) (ho : Off G w w') (hG : ∀ k, F k → ¬ G k) : CL w' F gc gd gl gk ak s l d M N := by
  obtain ⟨fv, m, n, vl, vs, L, h1, h2, h3, h4⟩ := c.ex
  exact ⟨⟨fv, m, n, vl, vs, L, h1.off ho (fun k q => hG k (h4 k (Or.inr q))), h2.off ho (fun k q => hG k (h4 k (Or.inl q))), h3, h4⟩, c.ok, fun j q => Nat.lt_of_lt_of_le (c.lt j q) ho.size⟩
theorem CL.below {F : Nat → Prop} {w w' : World} {gc gd gl gk ak : Nat} {s : Cs} {l : Lg} {d : Dsk} {M : Int} {N : Nat} (c : CL w F gc gd gl gk ak s l d M N) (hb : Below w.heap.size w w') : CL w' F gc gd gl gk ak s l d M N :=
  c.off (G := fun _ => False) (Off.of_below hb) fun _ _ q => q
def CStep (w : World) (F : Nat → Prop) (gc gd gl gk ak : Nat) (s : Cs) (l : Lg) (d : Dsk) (M : Int) (N : Nat) (w' : World) : Prop := Off F w w' ∧ ∃ F', CL w' F' gc gd gl gk ak s l d M N ∧ ∀ k, k < w.heap.size → F' k → F k
theorem CStep.same {F : Nat → Prop} {w w' : World} {gc gd gl gk ak : Nat} {s : Cs} {l : Lg} {d : Dsk} {M : Int} {N : Nat} (c : CL w F gc gd gl gk ak s l d M N) (hb : Below w.heap.size w w') : CStep w F gc gd gl gk ak s l d M N w' := ⟨Off.of_below hb, F, c.below hb, fun _ _ h => h⟩
theorem CStep.behind {F : Nat → Prop} {w w' w2 : World} {gc gd gl gk ak : Nat} {s : Cs} {l : Lg} {d : Dsk} {M : Int} {N : Nat} (c : CStep w F gc gd gl gk ak s l d M N w') (hb : Below w'.heap.size w' w2) : CStep w F gc gd gl gk ak s l d M N w2 := by
  obtain ⟨o, F', h, k⟩ := c
  exact ⟨o.trans (Off.of_below (F := fun _ => False) hb) (fun _ q => q.elim), F', h.below hb, k⟩
theorem CStep.trans {F : Nat → Prop} {w w1 w2 : World} {gc gd gl gk ak : Nat} {s s' : Cs} {l l' : Lg} {d d' : Dsk} {M M' : Int} {N N' : Nat} (hF : ∀ k, F k → k < w.heap.size) (o : Off F w w1) {F1 : Nat → Prop} (hF1 : ∀ k, k < w.heap.size → F1 k → F k) (h : CStep w1 F1 gc gd gl gk ak s l d M N w2) : CStep w F gc gd gl gk ak s l d M N w2 := by
  obtain ⟨o2, F2, c2, k2⟩ := h
  refine ⟨o.trans o2 (fun j q => ?_), F2, c2, fun j hj q => hF1 j hj (k2 j (Nat.lt_of_lt_of_le hj o.size) q)⟩
  rcases Nat.lt_or_ge j w.heap.size with y | y
  · exact Or.inl (hF1 j y q)
  · exact Or.inr y
set_option maxHeartbeats 1000000 in
theorem find_any {w : World} {gc gd gl gk ak : Nat} {fv : Value} {m n : Nat} {s : Cs} {M : Int} (c : CA w gc gd gl gk ak fv m n s M) (u : Bool) (k : Int) (hk : WfU k) : Calls Try.prog 56 #[.pointer (some ⟨gc, 0, none⟩), idv u k] w fun e w' => e = .returned (.tuple #[.int .i64 ((whereF s.fs u k).getD 0), .bool (whereF s.fs u k).isSome]) ∧ Below w.heap.size w w' := by
  unfold idv
  have HLK0 : Hid (∀ W, WMap W m n (whereF s.fs) → (Instr.lookup 115 (.map (some m)) (.agg #[.bool u, .int .u16 k]) true).run Try.prog W = .ok (.tuple #[.int .i64 ((whereF s.fs u k).getD 0), .bool (whereF s.fs u k).isSome]) W) := fun W h => h.look_ok hk
  obtain ⟨V, HV⟩ : ∃ V, Hid ((whereF s.fs u k).getD 0 = V) := ⟨_, rfl⟩
  obtain ⟨B, HB⟩ : ∃ B, Hid ((whereF s.fs u k).isSome = B) := ⟨_, rfl⟩
  have HLK : Hid (∀ W, WMap W m n (whereF s.fs) → (Instr.lookup 115 (.map (some m)) (.agg #[.bool u, .int .u16 k]) true).run Try.prog W = .ok (.tuple #[.int .i64 V, .bool B]) W) := by
    have := HLK0.out
    rw [HV.out, HB.out] at this
    exact this
  rw [HV.out, HB.out]
  obtain ⟨PP, HPP⟩ : ∃ PP : Ending → World → Prop, Hid (PP = fun e w' => e = .returned (.tuple #[.int .i64 V, .bool B]) ∧ Below w.heap.size w w') := ⟨_, rfl⟩
  rw [← HPP.out]
  have r0 : Row (w.alloc (.cells #[.bool u, .int .u16 k] 31)) w.heap.size #[.bool u, .int .u16 k] 31 := Row.new _ _ _
  have ab : Below w.heap.size w (w.alloc (.cells #[.bool u, .int .u16 k] 31)) := (Below.refl _ _).alloc (Nat.le_refl _) _
  have cr := c.row.below ab c.row.lt
  have cm := c.map.off (Off.of_below (F := fun _ => False) ab) (fun q => q)
  clear HLK0 c
  go_enter Try.func56, Try.ntmps56
  go_upto_region 3 with fail
  generalize w.alloc (.cells #[.bool u, .int .u16 k] 31) = W at r0 ab cr cm ⊢
  obtain ⟨A0, HA0⟩ : ∃ A0, Hid (w.heap.size = A0) := ⟨_, rfl⟩
  rw [HA0.out] at r0 ⊢
  refine wp_region_held_drew (S := fun w' => Row w' gc #[.pointer (some ⟨gd, 0, none⟩), .iface 24 (.pointer (some ⟨gl, 0, none⟩)), .pointer (some ⟨gk, 0, none⟩), .int .i64 s.pages, .int .i64 s.undo, .int .i64 s.most, fv, .map (some m)] 117 ∧ Row w' A0 #[.bool u, .int .u16 k] 31 ∧ WMap w' m n (whereF s.fs) ∧ Below w.heap.size w w') (by kernel_rfl) ⟨cr, r0, cm, ab.drew⟩ fun hS => ?_
  clear cr r0 cm ab
  refine tkH (i := 0) (v := .pointer (some ⟨gc, 0, none⟩)) rfl (by kernel_rfl) (fun _ _ _ h => h) (Or.inl ⟨by rfl, fun w _ => by rfl⟩) hS ?_
  try simp only [Act.put, nz]
  refine tkH (i := 1) (v := .pointer (some ⟨gc, 0, none⟩)) rfl (by kernel_rfl) (fun _ _ _ h => h) (Or.inl ⟨by rfl, fun w _ => by go_simp⟩) hS ?_
  try simp only [Act.put, nz]
  refine tkH (i := 2) (v := .pointer (some ⟨gc, 7, none⟩)) rfl (by kernel_rfl) (fun _ _ _ h => h) (Or.inl ⟨by rfl, fun w _ => by go_simp⟩) hS ?_
  try simp only [Act.put, nz]
  refine tkH (i := 3) (v := .map (some m)) rfl (by kernel_rfl) (fun _ _ _ h => h) (Or.inl ⟨by rfl, fun w h => by have c := row_at h.1 7 _ rfl; go_simp⟩) hS ?_
  try simp only [Act.put, nz]
  refine tkH (i := 4) (v := .agg #[.bool u, .int .u16 k]) rfl (by kernel_rfl) (fun _ _ _ h => h) (yields_cells (by rfl) 31 (.tmp 3) rfl A0 rfl 31 #[.bool u, .int .u16 k] (fun w h => h.2.1) 2 Try.underlying31 rfl size31 rfl) hS ?_
  try simp only [Act.put, nz]
  refine tkH (i := 5) (v := .tuple #[.int .i64 V, .bool B]) rfl (by kernel_rfl) (fun _ _ _ h => h) (Or.inl ⟨by rfl, fun w h => by have c := HLK.out w h.2.2.1; go_simp⟩) hS ?_
  try simp only [Act.put, nz]
  refine tkH (i := 6) (v := .tuple #[.int .i64 V, .bool B]) rfl (by kernel_rfl) (fun _ _ _ h => h) (Or.inl ⟨by rfl, fun w _ => by rfl⟩) hS ?_
  try simp only [Act.put, nz]
  refine tkH (i := 7) (v := .int .i64 V) rfl (by kernel_rfl) (fun _ _ _ h => h) (Or.inl ⟨by rfl, fun w _ => by go_simp⟩) hS ?_
  try simp only [Act.put, nz]
  refine tkH (i := 8) (v := .bool B) rfl (by kernel_rfl) (fun _ _ _ h => h) (Or.inl ⟨by rfl, fun w _ => by go_simp⟩) hS ?_
  try simp only [Act.put, nz]
  refine tkH (i := 9) (v := .int .i64 V) rfl (by kernel_rfl) (fun _ _ _ h => h) (Or.inl ⟨by rfl, fun w _ => by go_simp⟩) hS ?_
  try simp only [Act.put, nz]
  refine tkH (i := 10) (v := .bool B) rfl (by kernel_rfl) (fun _ _ _ h => h) (Or.inl ⟨by rfl, fun w _ => by go_simp⟩) hS ?_
  try simp only [Act.put, nz]
  refine wpAnyH_done (by kernel_rfl) ?_ _
  go_wp2
  rw [HPP.out]
  exact ⟨rfl, hS.2.2.2⟩
def isC (s : Cs) (u : Bool) (k : Int) : Bool := if u = true then decide (k < s.undo) else decide (k < s.pages)
set_option maxHeartbeats 1000000 in
theorem chas_any {w : World} {gc gd gl gk ak : Nat} {fv : Value} {m n : Nat} {s : Cs} {M : Int} (c : CA w gc gd gl gk ak fv m n s M) (u : Bool) (k : Int) (hk : WfU k) : Calls Try.prog 45 #[.pointer (some ⟨gc, 0, none⟩), idv u k] w fun e w' => e = .returned (.bool (isC s u k)) ∧ Below w.heap.size w w' := by
  unfold idv
  have hb := wfu hk
  have w0 : IntKind.i64.wrap k = k := by rw [IntKind.wrap_i64]; omega
  obtain ⟨PP, HPP⟩ : ∃ PP : Ending → World → Prop, Hid (PP = fun e w' => e = .returned (.bool (isC s u k)) ∧ Below w.heap.size w w') := ⟨_, rfl⟩
  rw [← HPP.out]
  have r0 : Row (w.alloc (.cells #[.bool u, .int .u16 k] 31)) w.heap.size #[.bool u, .int .u16 k] 31 := Row.new _ _ _
  have ab : Below w.heap.size w (w.alloc (.cells #[.bool u, .int .u16 k] 31)) := (Below.refl _ _).alloc (Nat.le_refl _) _
  have cr := c.row.below ab c.row.lt
  have e0 := row_at r0 0 _ rfl
  clear c
  cases u with
  | true =>
    by_cases hlt : k < (s.undo : Int)
    · have kk : k < (s.undo : Int) := hlt
      have HF : Hid (isC s true k = true) := by show isC s true k = true; unfold isC; simp [kk]
      go_enter Try.func45, Try.ntmps45
      go_upto_region 4 with fail
      generalize w.alloc (.cells #[.bool true, .int .u16 k] 31) = W at r0 ab cr ⊢
      obtain ⟨A0, HA0⟩ : ∃ A0, Hid (w.heap.size = A0) := ⟨_, rfl⟩
      rw [HA0.out] at r0 ⊢
      refine wp_region_held_drew (S := fun w' => Row w' gc #[.pointer (some ⟨gd, 0, none⟩), .iface 24 (.pointer (some ⟨gl, 0, none⟩)), .pointer (some ⟨gk, 0, none⟩), .int .i64 s.pages, .int .i64 s.undo, .int .i64 s.most, fv, .map (some m)] 117 ∧ Row w' A0 #[.bool true, .int .u16 k] 31 ∧ Below w.heap.size w w') (by kernel_rfl) ⟨cr, r0, ab.drew⟩ fun hS => ?_
      clear cr r0 ab e0
      refine tkH (i := 0) (v := .pointer (some ⟨A0, 1, none⟩)) rfl (by kernel_rfl) (fun _ _ _ h => h) (Or.inl ⟨by rfl, fun w _ => by go_simp⟩) hS ?_
      try simp only [Act.put, nz]
      refine tkH (i := 1) (v := .int .u16 k) rfl (by kernel_rfl) (fun _ _ _ h => h) (Or.inl ⟨by rfl, fun w h => by have c := row_at h.2.1 1 _ rfl; go_simp⟩) hS ?_
      try simp only [Act.put, nz]
      refine tkH (i := 2) (v := .int .i64 k) rfl (by kernel_rfl) (fun _ _ _ h => h) (Or.inl ⟨by rfl, fun w _ => by go_simp⟩) hS ?_
      try simp only [Act.put, nz]
      refine tkH (i := 3) (v := .pointer (some ⟨gc, 0, none⟩)) rfl (by kernel_rfl) (fun _ _ _ h => h) (Or.inl ⟨by rfl, fun w _ => by rfl⟩) hS ?_
      try simp only [Act.put, nz]
      refine tkH (i := 4) (v := .pointer (some ⟨gc, 0, none⟩)) rfl (by kernel_rfl) (fun _ _ _ h => h) (Or.inl ⟨by rfl, fun w _ => by go_simp⟩) hS ?_
      try simp only [Act.put, nz]
      refine tkH (i := 5) (v := .pointer (some ⟨gc, 4, none⟩)) rfl (by kernel_rfl) (fun _ _ _ h => h) (Or.inl ⟨by rfl, fun w _ => by go_simp⟩) hS ?_
      try simp only [Act.put, nz]
      refine tkH (i := 6) (v := .int .i64 s.undo) rfl (by kernel_rfl) (fun _ _ _ h => h) (Or.inl ⟨by rfl, fun w h => by have c := row_at h.1 4 _ rfl; go_simp⟩) hS ?_
      try simp only [Act.put, nz]
      refine tkH (i := 7) (v := .bool true) rfl (by kernel_rfl) (fun _ _ _ h => h) (Or.inl ⟨by rfl, fun w _ => by go_simp⟩) hS ?_
      try simp only [Act.put, nz]
      refine tkH (i := 8) (v := .bool true) rfl (by kernel_rfl) (fun _ _ _ h => h) (Or.inl ⟨by rfl, fun w _ => by go_simp⟩) hS ?_
      try simp only [Act.put, nz]
      refine wpAnyH_done (by kernel_rfl) ?_ _
      go_wp2
      rw [HPP.out]
      exact ⟨by rw [HF.out] <;> rfl, hS.2.2⟩
    · have kk : ¬ k < (s.undo : Int) := hlt
      have HF : Hid (isC s true k = false) := by show isC s true k = false; unfold isC; simp [kk]
      go_enter Try.func45, Try.ntmps45
      go_upto_region 4 with fail
      generalize w.alloc (.cells #[.bool true, .int .u16 k] 31) = W at r0 ab cr ⊢
      obtain ⟨A0, HA0⟩ : ∃ A0, Hid (w.heap.size = A0) := ⟨_, rfl⟩
      rw [HA0.out] at r0 ⊢
      refine wp_region_held_drew (S := fun w' => Row w' gc #[.pointer (some ⟨gd, 0, none⟩), .iface 24 (.pointer (some ⟨gl, 0, none⟩)), .pointer (some ⟨gk, 0, none⟩), .int .i64 s.pages, .int .i64 s.undo, .int .i64 s.most, fv, .map (some m)] 117 ∧ Row w' A0 #[.bool true, .int .u16 k] 31 ∧ Below w.heap.size w w') (by kernel_rfl) ⟨cr, r0, ab.drew⟩ fun hS => ?_
      clear cr r0 ab e0
      refine tkH (i := 0) (v := .pointer (some ⟨A0, 1, none⟩)) rfl (by kernel_rfl) (fun _ _ _ h => h) (Or.inl ⟨by rfl, fun w _ => by go_simp⟩) hS ?_
      try simp only [Act.put, nz]
      refine tkH (i := 1) (v := .int .u16 k) rfl (by kernel_rfl) (fun _ _ _ h => h) (Or.inl ⟨by rfl, fun w h => by have c := row_at h.2.1 1 _ rfl; go_simp⟩) hS ?_
      try simp only [Act.put, nz]
      refine tkH (i := 2) (v := .int .i64 k) rfl (by kernel_rfl) (fun _ _ _ h => h) (Or.inl ⟨by rfl, fun w _ => by go_simp⟩) hS ?_
      try simp only [Act.put, nz]
      refine tkH (i := 3) (v := .pointer (some ⟨gc, 0, none⟩)) rfl (by kernel_rfl) (fun _ _ _ h => h) (Or.inl ⟨by rfl, fun w _ => by rfl⟩) hS ?_
      try simp only [Act.put, nz]
      refine tkH (i := 4) (v := .pointer (some ⟨gc, 0, none⟩)) rfl (by kernel_rfl) (fun _ _ _ h => h) (Or.inl ⟨by rfl, fun w _ => by go_simp⟩) hS ?_
      try simp only [Act.put, nz]
      refine tkH (i := 5) (v := .pointer (some ⟨gc, 4, none⟩)) rfl (by kernel_rfl) (fun _ _ _ h => h) (Or.inl ⟨by rfl, fun w _ => by go_simp⟩) hS ?_
      try simp only [Act.put, nz]
      refine tkH (i := 6) (v := .int .i64 s.undo) rfl (by kernel_rfl) (fun _ _ _ h => h) (Or.inl ⟨by rfl, fun w h => by have c := row_at h.1 4 _ rfl; go_simp⟩) hS ?_
      try simp only [Act.put, nz]
      refine tkH (i := 7) (v := .bool false) rfl (by kernel_rfl) (fun _ _ _ h => h) (Or.inl ⟨by rfl, fun w _ => by go_simp⟩) hS ?_
      try simp only [Act.put, nz]
      refine tkH (i := 8) (v := .bool false) rfl (by kernel_rfl) (fun _ _ _ h => h) (Or.inl ⟨by rfl, fun w _ => by go_simp⟩) hS ?_
      try simp only [Act.put, nz]
      refine wpAnyH_done (by kernel_rfl) ?_ _
      go_wp2
      rw [HPP.out]
      exact ⟨by rw [HF.out] <;> rfl, hS.2.2⟩
  | false =>
    by_cases hlt : k < (s.pages : Int)
    · have kk : k < (s.pages : Int) := hlt
      have HF : Hid (isC s false k = true) := by show isC s false k = true; unfold isC; simp [kk]
      go_enter Try.func45, Try.ntmps45
      go_upto_region 5 with fail
      generalize w.alloc (.cells #[.bool false, .int .u16 k] 31) = W at r0 ab cr ⊢
      obtain ⟨A0, HA0⟩ : ∃ A0, Hid (w.heap.size = A0) := ⟨_, rfl⟩
      rw [HA0.out] at r0 ⊢
      refine wp_region_held_drew (S := fun w' => Row w' gc #[.pointer (some ⟨gd, 0, none⟩), .iface 24 (.pointer (some ⟨gl, 0, none⟩)), .pointer (some ⟨gk, 0, none⟩), .int .i64 s.pages, .int .i64 s.undo, .int .i64 s.most, fv, .map (some m)] 117 ∧ Row w' A0 #[.bool false, .int .u16 k] 31 ∧ Below w.heap.size w w') (by kernel_rfl) ⟨cr, r0, ab.drew⟩ fun hS => ?_
      clear cr r0 ab e0
      refine tkH (i := 0) (v := .pointer (some ⟨A0, 1, none⟩)) rfl (by kernel_rfl) (fun _ _ _ h => h) (Or.inl ⟨by rfl, fun w _ => by go_simp⟩) hS ?_
      try simp only [Act.put, nz]
      refine tkH (i := 1) (v := .int .u16 k) rfl (by kernel_rfl) (fun _ _ _ h => h) (Or.inl ⟨by rfl, fun w h => by have c := row_at h.2.1 1 _ rfl; go_simp⟩) hS ?_
      try simp only [Act.put, nz]
      refine tkH (i := 2) (v := .int .i64 k) rfl (by kernel_rfl) (fun _ _ _ h => h) (Or.inl ⟨by rfl, fun w _ => by go_simp⟩) hS ?_
      try simp only [Act.put, nz]
      refine tkH (i := 3) (v := .pointer (some ⟨gc, 0, none⟩)) rfl (by kernel_rfl) (fun _ _ _ h => h) (Or.inl ⟨by rfl, fun w _ => by rfl⟩) hS ?_
      try simp only [Act.put, nz]
      refine tkH (i := 4) (v := .pointer (some ⟨gc, 0, none⟩)) rfl (by kernel_rfl) (fun _ _ _ h => h) (Or.inl ⟨by rfl, fun w _ => by go_simp⟩) hS ?_
      try simp only [Act.put, nz]
      refine tkH (i := 5) (v := .pointer (some ⟨gc, 3, none⟩)) rfl (by kernel_rfl) (fun _ _ _ h => h) (Or.inl ⟨by rfl, fun w _ => by go_simp⟩) hS ?_
      try simp only [Act.put, nz]
      refine tkH (i := 6) (v := .int .i64 s.pages) rfl (by kernel_rfl) (fun _ _ _ h => h) (Or.inl ⟨by rfl, fun w h => by have c := row_at h.1 3 _ rfl; go_simp⟩) hS ?_
      try simp only [Act.put, nz]
      refine tkH (i := 7) (v := .bool true) rfl (by kernel_rfl) (fun _ _ _ h => h) (Or.inl ⟨by rfl, fun w _ => by go_simp⟩) hS ?_
      try simp only [Act.put, nz]
      refine tkH (i := 8) (v := .bool true) rfl (by kernel_rfl) (fun _ _ _ h => h) (Or.inl ⟨by rfl, fun w _ => by go_simp⟩) hS ?_
      try simp only [Act.put, nz]
      refine wpAnyH_done (by kernel_rfl) ?_ _
      go_wp2
      rw [HPP.out]
      exact ⟨by rw [HF.out] <;> rfl, hS.2.2⟩
    · have kk : ¬ k < (s.pages : Int) := hlt
      have HF : Hid (isC s false k = false) := by show isC s false k = false; unfold isC; simp [kk]
      go_enter Try.func45, Try.ntmps45
      go_upto_region 5 with fail
      generalize w.alloc (.cells #[.bool false, .int .u16 k] 31) = W at r0 ab cr ⊢
      obtain ⟨A0, HA0⟩ : ∃ A0, Hid (w.heap.size = A0) := ⟨_, rfl⟩
      rw [HA0.out] at r0 ⊢
      refine wp_region_held_drew (S := fun w' => Row w' gc #[.pointer (some ⟨gd, 0, none⟩), .iface 24 (.pointer (some ⟨gl, 0, none⟩)), .pointer (some ⟨gk, 0, none⟩), .int .i64 s.pages, .int .i64 s.undo, .int .i64 s.most, fv, .map (some m)] 117 ∧ Row w' A0 #[.bool false, .int .u16 k] 31 ∧ Below w.heap.size w w') (by kernel_rfl) ⟨cr, r0, ab.drew⟩ fun hS => ?_
      clear cr r0 ab e0
      refine tkH (i := 0) (v := .pointer (some ⟨A0, 1, none⟩)) rfl (by kernel_rfl) (fun _ _ _ h => h) (Or.inl ⟨by rfl, fun w _ => by go_simp⟩) hS ?_
      try simp only [Act.put, nz]
      refine tkH (i := 1) (v := .int .u16 k) rfl (by kernel_rfl) (fun _ _ _ h => h) (Or.inl ⟨by rfl, fun w h => by have c := row_at h.2.1 1 _ rfl; go_simp⟩) hS ?_
      try simp only [Act.put, nz]
      refine tkH (i := 2) (v := .int .i64 k) rfl (by kernel_rfl) (fun _ _ _ h => h) (Or.inl ⟨by rfl, fun w _ => by go_simp⟩) hS ?_
      try simp only [Act.put, nz]
      refine tkH (i := 3) (v := .pointer (some ⟨gc, 0, none⟩)) rfl (by kernel_rfl) (fun _ _ _ h => h) (Or.inl ⟨by rfl, fun w _ => by rfl⟩) hS ?_
      try simp only [Act.put, nz]
      refine tkH (i := 4) (v := .pointer (some ⟨gc, 0, none⟩)) rfl (by kernel_rfl) (fun _ _ _ h => h) (Or.inl ⟨by rfl, fun w _ => by go_simp⟩) hS ?_
      try simp only [Act.put, nz]
      refine tkH (i := 5) (v := .pointer (some ⟨gc, 3, none⟩)) rfl (by kernel_rfl) (fun _ _ _ h => h) (Or.inl ⟨by rfl, fun w _ => by go_simp⟩) hS ?_
      try simp only [Act.put, nz]
      refine tkH (i := 6) (v := .int .i64 s.pages) rfl (by kernel_rfl) (fun _ _ _ h => h) (Or.inl ⟨by rfl, fun w h => by have c := row_at h.1 3 _ rfl; go_simp⟩) hS ?_
      try simp only [Act.put, nz]
      refine tkH (i := 7) (v := .bool false) rfl (by kernel_rfl) (fun _ _ _ h => h) (Or.inl ⟨by rfl, fun w _ => by go_simp⟩) hS ?_
      try simp only [Act.put, nz]
      refine tkH (i := 8) (v := .bool false) rfl (by kernel_rfl) (fun _ _ _ h => h) (Or.inl ⟨by rfl, fun w _ => by go_simp⟩) hS ?_
      try simp only [Act.put, nz]
      refine wpAnyH_done (by kernel_rfl) ?_ _
      go_wp2
      rw [HPP.out]
      exact ⟨by rw [HF.out] <;> rfl, hS.2.2⟩
theorem cell_keep {w w' : World} {p : Addr} {u : Value} (h : w.cell? p = some u) (hb : Below w.heap.size w w') : w'.cell? p = some u := by
  rw [← h]
  refine World.cell?_of_block (hb.block _ ?_)
  unfold World.cell? at h
  by_cases q : p.block < w.heap.size
  · exact q
  · rw [Array.getElem?_eq_none (by omega)] at h; cases h
theorem where_some {fs : List Fm} {u : Bool} {k : Int} {i : Nat} (h : posF fs u k = some i) : whereF fs u k = some (i : Int) := by unfold whereF; rw [h]; rfl
theorem where_none {fs : List Fm} {u : Bool} {k : Int} (h : posF fs u k = none) : whereF fs u k = none := by unfold whereF; rw [h]; rfl
theorem posF_lt {fs : List Fm} {u : Bool} {k : Int} {i : Nat} (h : posF fs u k = some i) : i < fs.length := by
  obtain ⟨f, hf, _⟩ := posF_some h
  exact (List.getElem?_eq_some_iff.1 hf).1
theorem resident_any {w : World} {gc gd gl gk ak : Nat} {fv : Value} {m n : Nat} {s : Cs} {M : Int} (c : CA w gc gd gl gk ak fv m n s M) (u : Bool) (k : Int) (hk : WfU k) : Calls Try.prog 23 #[.pointer (some ⟨gc, 0, none⟩), idv u k] w fun e w' => e = .returned (.bool (posF s.fs u k).isSome) ∧ Below w.heap.size w w' := by
  obtain ⟨PP, HPP⟩ : ∃ PP : Ending → World → Prop, Hid (PP = fun e w' => e = .returned (.bool (posF s.fs u k).isSome) ∧ Below w.heap.size w w') := ⟨_, rfl⟩
  rw [← HPP.out]
  have r0 : Row (w.alloc (.cells #[.bool u, .int .u16 k] 31)) w.heap.size #[.bool u, .int .u16 k] 31 := Row.new _ _ _
  have ab : Below w.heap.size w (w.alloc (.cells #[.bool u, .int .u16 k] 31)) := (Below.refl _ _).alloc (Nat.le_refl _) _
  have cW := c.below ab
  have hfi := find_any cW u k hk
  unfold idv at hfi ⊢
  obtain ⟨V, HV⟩ : ∃ V, Hid ((whereF s.fs u k).getD 0 = V) := ⟨_, rfl⟩
  obtain ⟨B, HB⟩ : ∃ B, Hid ((whereF s.fs u k).isSome = B) := ⟨_, rfl⟩
  have HB2 : Hid ((posF s.fs u k).isSome = B) := by show _ = _; rw [← HB.out]; unfold whereF; cases posF s.fs u k <;> rfl
  rw [HV.out, HB.out] at hfi
  go_enter Try.func23, Try.ntmps23
  go_upto_region 1 with fail
  generalize w.alloc (.cells #[.bool u, .int .u16 k] 31) = W at r0 ab cW hfi ⊢
  obtain ⟨A0, HA0⟩ : ∃ A0, Hid (w.heap.size = A0) := ⟨_, rfl⟩
  rw [HA0.out] at r0 ⊢
  have tl : Hid (1 = 1) := rfl
  go_wp2_with (first
    | (have hh := tl; clear hh tl; refine load_cells rfl 31 (.tmp 3) rfl A0 rfl 31 #[.bool u, .int .u16 k] r0 2 Try.underlying31 rfl size31 rfl ?_)
    | (have hh := hfi; clear hh; go_at_call 56; refine Calls.mono hfi ?_; clear hfi; rintro e W1 ⟨he, hb⟩; obtain rfl := he; have cW := cW.below hb; have ab := ab.trans (hb.mono ab.size); clear hb; ))
  rw [HPP.out]
  exact ⟨by rw [HB2.out] <;> rfl, ab⟩
def pinsC (s : Cs) (u : Bool) (k : Int) : Int := match posF s.fs u k with | some i => ((s.ck[i]?).map Cl.Fr.pins).getD 0 | none => 0
theorem cpins_any {w : World} {gc gd gl gk ak : Nat} {fv : Value} {m n : Nat} {s : Cs} {M : Int} (c : CA w gc gd gl gk ak fv m n s M) (ok : s.Ok) (u : Bool) (k : Int) (hk : WfU k) : Calls Try.prog 22 #[.pointer (some ⟨gc, 0, none⟩), idv u k] w fun e w' => e = .returned (.int .i64 (pinsC s u k)) ∧ Below w.heap.size w w' := by
  obtain ⟨PP, HPP⟩ : ∃ PP : Ending → World → Prop, Hid (PP = fun e w' => e = .returned (.int .i64 (pinsC s u k)) ∧ Below w.heap.size w w') := ⟨_, rfl⟩
  rw [← HPP.out]
  have r0 : Row (w.alloc (.cells #[.bool u, .int .u16 k] 31)) w.heap.size #[.bool u, .int .u16 k] 31 := Row.new _ _ _
  have ab : Below w.heap.size w (w.alloc (.cells #[.bool u, .int .u16 k] 31)) := (Below.refl _ _).alloc (Nat.le_refl _) _
  have cW := c.below ab
  have hfi := find_any cW u k hk
  unfold idv at hfi ⊢
  cases hp : posF s.fs u k with
  | none =>
    rw [where_none hp] at hfi
    simp only [Option.getD_none, Option.isSome_none] at hfi
    have HF : Hid (pinsC s u k = 0) := by show pinsC s u k = 0; unfold pinsC; rw [hp]
    clear hp
    go_enter Try.func22, Try.ntmps22
    go_upto_region 1 with fail
    generalize w.alloc (.cells #[.bool u, .int .u16 k] 31) = W at r0 ab cW hfi ⊢
    obtain ⟨A0, HA0⟩ : ∃ A0, Hid (w.heap.size = A0) := ⟨_, rfl⟩
    rw [HA0.out] at r0 ⊢
    have tl : Hid (1 = 1) := rfl
    go_wp2_with (first
      | (have hh := tl; clear hh tl; refine load_cells rfl 31 (.tmp 3) rfl A0 rfl 31 #[.bool u, .int .u16 k] r0 2 Try.underlying31 rfl size31 rfl ?_)
      | (have hh := hfi; clear hh; go_at_call 56; refine Calls.mono hfi ?_; clear hfi; rintro e W1 ⟨he, hb⟩; obtain rfl := he; have cW := cW.below hb; have ab := ab.trans (hb.mono ab.size); clear hb; ))
    rw [HPP.out]
    exact ⟨by rw [HF.out] <;> rfl, ab⟩
  | some i =>
    rw [where_some hp] at hfi
    simp only [Option.getD_some, Option.isSome_some] at hfi
    have hil := posF_lt hp
    obtain ⟨x, hx⟩ : ∃ x, s.ck[i]? = some x := ⟨_, List.getElem?_eq_getElem (by rw [ok.ck]; exact Nat.lt_of_lt_of_le hil ok.few)⟩
    have HF : Hid (pinsC s u k = x.pins) := by show pinsC s u k = x.pins; unfold pinsC; rw [hp]; simp [hx]
    have HPI : Hid (∀ W, CA W gc gd gl gk ak fv m n s M → Calls Try.prog 58 #[.pointer (some ⟨gk, 0, none⟩), .int .i64 i] W fun e w' => e = .returned (.int .i64 x.pins) ∧ w' = W) := fun W h => Cl.pins_in h.clk i x hx
    clear hp hil hx
    go_enter Try.func22, Try.ntmps22
    go_upto_region 1 with fail
    generalize w.alloc (.cells #[.bool u, .int .u16 k] 31) = W at r0 ab cW hfi ⊢
    obtain ⟨A0, HA0⟩ : ∃ A0, Hid (w.heap.size = A0) := ⟨_, rfl⟩
    rw [HA0.out] at r0 ⊢
    have tl : Hid (1 = 1) := rfl
    go_wp2_with (first
      | (have hh := tl; clear hh tl; refine load_cells rfl 31 (.tmp 3) rfl A0 rfl 31 #[.bool u, .int .u16 k] r0 2 Try.underlying31 rfl size31 rfl ?_)
      | (have hh := hfi; clear hh; go_at_call 56; refine Calls.mono hfi ?_; clear hfi; rintro e W1 ⟨he, hb⟩; obtain rfl := he; have cW := cW.below hb; have ab := ab.trans (hb.mono ab.size); clear hb; have c2 : W1.cell? ⟨gc, 2, none⟩ = some (.pointer (some ⟨gk, 0, none⟩)) := row_at cW.row 2 _ rfl; have hpi := HPI.out W1 cW)
      | (have hh := hpi; clear hh; go_at_call 58; refine Calls.mono hpi ?_; clear hpi; rintro e W2 ⟨he, hww⟩; rw [hww]; clear hww W2; obtain rfl := he))
    rw [HPP.out]
    exact ⟨by rw [HF.out] <;> rfl, ab⟩
def cleanC (s : Cs) (u : Bool) (k : Int) : Bool := match posF s.fs u k with | some i => !((s.fs[i]?).map Fm.dirty).getD false | none => true
set_option maxHeartbeats 1000000 in
theorem clean_any {w : World} {gc gd gl gk ak : Nat} {fv : Value} {m n : Nat} {s : Cs} {M : Int} (c : CA w gc gd gl gk ak fv m n s M) (ok : s.Ok) (u : Bool) (k : Int) (hk : WfU k) : Calls Try.prog 26 #[.pointer (some ⟨gc, 0, none⟩), idv u k] w fun e w' => e = .returned (.bool (cleanC s u k)) ∧ Below w.heap.size w w' := by
  obtain ⟨PP, HPP⟩ : ∃ PP : Ending → World → Prop, Hid (PP = fun e w' => e = .returned (.bool (cleanC s u k)) ∧ Below w.heap.size w w') := ⟨_, rfl⟩
  rw [← HPP.out]
  have r0 : Row (w.alloc (.cells #[.bool u, .int .u16 k] 31)) w.heap.size #[.bool u, .int .u16 k] 31 := Row.new _ _ _
  have ab : Below w.heap.size w (w.alloc (.cells #[.bool u, .int .u16 k] 31)) := (Below.refl _ _).alloc (Nat.le_refl _) _
  have cW := c.below ab
  have hfi := find_any cW u k hk
  unfold idv at hfi ⊢
  cases hp : posF s.fs u k with
  | none =>
    rw [where_none hp] at hfi
    simp only [Option.getD_none, Option.isSome_none] at hfi
    have HF : Hid (cleanC s u k = true) := by show cleanC s u k = true; unfold cleanC; rw [hp]
    clear hp
    go_enter Try.func26, Try.ntmps26
    go_upto_region 1 with fail
    generalize w.alloc (.cells #[.bool u, .int .u16 k] 31) = W at r0 ab cW hfi ⊢
    obtain ⟨A0, HA0⟩ : ∃ A0, Hid (w.heap.size = A0) := ⟨_, rfl⟩
    rw [HA0.out] at r0 ⊢
    have tl : Hid (1 = 1) := rfl
    go_wp2_with (first
      | (have hh := tl; clear hh tl; refine load_cells rfl 31 (.tmp 3) rfl A0 rfl 31 #[.bool u, .int .u16 k] r0 2 Try.underlying31 rfl size31 rfl ?_)
      | (have hh := hfi; clear hh; go_at_call 56; refine Calls.mono hfi ?_; clear hfi; rintro e W1 ⟨he, hb⟩; obtain rfl := he; have cW := cW.below hb; have ab := ab.trans (hb.mono ab.size); clear hb; ))
    rw [HPP.out]
    exact ⟨by rw [HF.out] <;> rfl, ab⟩
  | some i =>
    rw [where_some hp] at hfi
    simp only [Option.getD_some, Option.isSome_some] at hfi
    have hil := posF_lt hp
    obtain ⟨f, hf, _⟩ := posF_some hp
    have HF : Hid (cleanC s u k = (!f.dirty)) := by show cleanC s u k = (!f.dirty); unfold cleanC; rw [hp]; simp [hf]
    obtain ⟨bb, HBB⟩ : ∃ bb, Hid (f.dirty = bb) := ⟨_, rfl⟩
    rw [HBB.out] at HF
    obtain ⟨oa, cap, rfl, hcap, hel⟩ := c.form ok.fs
    obtain ⟨a, rfl, hcell⟩ := hel i f hf
    have hc0 := hcell 227 (.bool bb) (by rw [f.cells_pre, List.getElem?_append_right (by rw [Fm.pre_length (ok.fs f (List.mem_of_getElem? hf)).len]; omega), Fm.pre_length (ok.fs f (List.mem_of_getElem? hf)).len]; rw [← HBB.out]; rfl)
    have HCE : Hid (∀ W, Below w.heap.size w W → W.cell? ⟨a, i * 229 + 227, none⟩ = some (.bool bb)) := fun W hb => cell_keep hc0 hb
    have HLEN : Hid (s.fs.length ≤ 32) := by show _ ≤ _; have := ok.few; have := ok.most.2; omega
    have hil2 : (i : Int) < (s.fs.length : Int) := by omega
    clear hp hf hel hcell hc0 hil
    go_enter Try.func26, Try.ntmps26
    go_upto_region 1 with fail
    generalize w.alloc (.cells #[.bool u, .int .u16 k] 31) = W at r0 ab cW hfi ⊢
    obtain ⟨A0, HA0⟩ : ∃ A0, Hid (w.heap.size = A0) := ⟨_, rfl⟩
    rw [HA0.out] at r0 ⊢
    have tl : Hid (1 = 1) := rfl
    cases bb with
    | true =>
      go_wp2_with (first
        | (have hh := tl; clear hh tl; refine load_cells rfl 31 (.tmp 3) rfl A0 rfl 31 #[.bool u, .int .u16 k] r0 2 Try.underlying31 rfl size31 rfl ?_)
        | (have hh := hfi; clear hh; go_at_call 56; refine Calls.mono hfi ?_; clear hfi; rintro e W1 ⟨he, hb⟩; obtain rfl := he; have cW := cW.below hb; have ab := ab.trans (hb.mono ab.size); clear hb; have c6 : W1.cell? ⟨gc, 6, none⟩ = some (.slice (some ⟨a, 0, none⟩) s.fs.length cap) := row_at cW.row 6 _ rfl; have hce := HCE.out W1 ab))
      rw [HPP.out]
      exact ⟨by rw [HF.out] <;> rfl, ab⟩
    | false =>
      go_wp2_with (first
        | (have hh := tl; clear hh tl; refine load_cells rfl 31 (.tmp 3) rfl A0 rfl 31 #[.bool u, .int .u16 k] r0 2 Try.underlying31 rfl size31 rfl ?_)
        | (have hh := hfi; clear hh; go_at_call 56; refine Calls.mono hfi ?_; clear hfi; rintro e W1 ⟨he, hb⟩; obtain rfl := he; have cW := cW.below hb; have ab := ab.trans (hb.mono ab.size); clear hb; have c6 : W1.cell? ⟨gc, 6, none⟩ = some (.slice (some ⟨a, 0, none⟩) s.fs.length cap) := row_at cW.row 6 _ rfl; have hce := HCE.out W1 ab))
      rw [HPP.out]
      exact ⟨by rw [HF.out] <;> rfl, ab⟩
end Go.Proofs.Ytehogiondcpbcaa
