/-
  Plain facts: what Flush leaves on a disk whose power stays, and what Scan tells of it.
-/
import Derived.Test.YtgnedbagelhcbaaLgy
namespace Go.Proofs.Ytgnedbagelhcbaa
open Go.ChangeShapes Go.WideShapes Go.ChangeAt Go.RowKit
set_option linter.unusedVariables false
set_option linter.unusedSimpArgs false
set_option maxRecDepth 20000
theorem tick_seen (d : Dsk) (k b : Int) : (d.tick k).seen b = d.seen b := rfl
theorem synced_seen (d : Dsk) (b : Int) : d.synced.seen b = d.seen b := rfl
theorem wrote_pend (d : Dsk) (c : Int) (x : List Int) : (d.wrote c x 4).pend = d.pend ++ [(c, 0, cut x 0), (c, 1, cut x 1), (c, 2, cut x 2), (c, 3, cut x 3)] := by simp [Dsk.wrote, Dsk.push]
theorem wrote_other (d : Dsk) (c b : Int) (x : List Int) (h : b ≠ c) : (d.wrote c x 4).seen b = d.seen b := by
  unfold Dsk.seen
  rw [wrote_sure, wrote_pend, over_append, block_out]
  intro q hq
  simp at hq
  rcases hq with rfl | rfl | rfl | rfl <;> exact fun h' => h h'.symm
theorem new_well (n : Nat) : Well (Dsk.new n) n 0 := ⟨rfl, rfl, rfl, fun _ => rfl, by simp [Dsk.new], by simp [Dsk.new]⟩
theorem new_seen (n : Nat) (b : Int) : (Dsk.new n).seen b = zs 256 := by
  show blk (fun i => ((Dsk.new n).sure.get b (i : Int))) 4 = _
  have : (fun i : Nat => ((Dsk.new n).sure.get b (i : Int))) = fun _ => zs 64 := by funext i; rfl
  rw [this]
  decide +kernel
theorem isB_zs : isB (zs 256) = false := by
  have h : okC (strOfNums (uL (zs 256))) = false := by decide +kernel
  unfold isB
  rw [h]; simp
def putB (a z : Int) : (Int → List Int) → List Ck.O → Int → List Int
  | f, [] => f
  | f, c :: cs => putB a z (fun b => if b = placeV a z c.num then blkC c else f b) cs
theorem putB_append (a z : Int) (l2 : List Ck.O) : ∀ (l1 : List Ck.O) (f : Int → List Int), putB a z f (l1 ++ l2) = putB a z (putB a z f l1) l2
  | [], f => rfl
  | c :: l1, f => putB_append a z l2 l1 _
theorem wrS_well {a z : Int} {n : Nat} : ∀ (cs : List Ck.O) (d : Dsk) (k : Int), Well d n k → (∀ c ∈ cs, 0 ≤ placeV a z c.num ∧ placeV a z c.num < n) → ∃ d', wrS a z cs d = (0, d') ∧ Well d' n (k + cs.length) ∧ (∀ b, d'.seen b = putB a z d.seen cs b)
  | [], d, k, h, _ => ⟨d, rfl, h.mono (by simp), fun _ => rfl⟩
  | c :: cs, d, k, h, hp => by
    have e := writ_well h (placeV a z c.num) (hp c (List.mem_cons_self)) (blkC c)
    have hw := (h.tick).wrote (placeV a z c.num) (blkC c)
    obtain ⟨d', h1, h2, h3⟩ := wrS_well cs _ _ hw (fun c' hc => hp c' (List.mem_cons_of_mem _ hc))
    refine ⟨d', ?_, h2.mono (by simp; omega), fun b => ?_⟩
    · rw [wrS_cons, e]; exact h1
    · rw [h3 b]
      show putB a z _ cs b = putB a z _ cs b
      congr 1
      funext b'
      by_cases hb : b' = placeV a z c.num
      · rw [if_pos hb, hb, wrote_seen _ _ _ (blkC_length c)]
      · rw [if_neg hb, wrote_other _ _ _ _ hb, tick_seen]
theorem layR_well {a z : Int} {n : Nat} (cs : List Ck.O) (d : Dsk) (k : Int) (h : Well d n k) (hp : ∀ c ∈ cs, 0 ≤ placeV a z c.num ∧ placeV a z c.num < n) : ∃ d', layR a z cs d = (0, d') ∧ Well d' n (k + cs.length + 1) ∧ (∀ b, d'.seen b = putB a z d.seen cs b) ∧ (cs = [] → d' = d) ∧ (cs ≠ [] → d'.pend = []) := by
  by_cases hc : cs = []
  · refine ⟨d, by unfold layR; rw [if_pos hc], h.mono (by omega), fun b => by rw [hc]; rfl, fun _ => rfl, fun q => absurd hc q⟩
  · obtain ⟨d', h1, h2, h3⟩ := wrS_well cs d k h hp
    have e := sync_well h2
    refine ⟨_, by unfold layR; rw [if_neg hc, h1, if_pos rfl]; exact e, h2.tick.synced, fun b => ?_, fun q => absurd q hc, fun _ => rfl⟩
    rw [synced_seen, tick_seen]; exact h3 b
def Lg.fl (l : Lg) : Lg := (if l.closed.fresh = true ∧ l.closed.sealed ≠ [] then { l.closed with fresh := false } else l.closed).flushed
theorem flush_well {n : Nat} (l : Lg) (d : Dsk) (k : Int) (h : Well d n k) (hp : ∀ c ∈ l.closed.sealed, 0 ≤ placeV l.at_ l.size c.num ∧ placeV l.at_ l.size c.num < n) (ha : l.closed.at_ = l.at_) (hz : l.closed.size = l.size) :
    ∃ d', flushR l d = (0, l.fl, d') ∧ Well d' n (k + l.closed.sealed.length + 2) ∧ (∀ b, d'.seen b = putB l.at_ l.size d.seen l.closed.sealed b) ∧ (l.closed.sealed = [] → d' = d) ∧ (l.closed.sealed ≠ [] → d'.pend = []) := by
  unfold flushR flushC Lg.fl
  by_cases hc : l.closed.fresh = true ∧ l.closed.sealed ≠ []
  · rw [if_pos hc, if_pos hc, ha, hz]
    have hp1 : ∀ c ∈ l.closed.sealed.take 1, 0 ≤ placeV l.at_ l.size c.num ∧ placeV l.at_ l.size c.num < n := fun c hq => hp c (List.mem_of_mem_take hq)
    have hp2 : ∀ c ∈ l.closed.sealed.drop 1, 0 ≤ placeV l.at_ l.size c.num ∧ placeV l.at_ l.size c.num < n := fun c hq => hp c (List.mem_of_mem_drop hq)
    obtain ⟨d1, e1, w1, s1, _, p1⟩ := layR_well _ d k h hp1
    obtain ⟨d2, e2, w2, s2, q2, p2⟩ := layR_well _ d1 _ w1 hp2
    refine ⟨d2, ?_, w2.mono ?_, fun b => ?_, fun q => absurd q hc.2, fun _ => ?_⟩
    · rw [e1]
      simp only [if_pos]
      unfold restR
      simp only [ha, hz, e2, if_pos]
    · have : (l.closed.sealed.take 1).length + (l.closed.sealed.drop 1).length = l.closed.sealed.length := by rw [← List.length_append, List.take_append_drop]
      omega
    · rw [s2 b]
      have : (d1.seen : Int → List Int) = putB l.at_ l.size d.seen (l.closed.sealed.take 1) := funext s1
      rw [this, ← putB_append, List.take_append_drop]
    · by_cases hd : l.closed.sealed.drop 1 = []
      · rw [q2 hd]
        refine p1 (fun q => hc.2 ?_)
        have := List.take_append_drop 1 l.closed.sealed
        rw [q, hd] at this; exact this.symm
      · exact p2 hd
  · rw [if_neg hc, if_neg hc]
    unfold restR
    rw [List.drop_zero, ha, hz]
    obtain ⟨d2, e2, w2, s2, q2, p2⟩ := layR_well _ d k h hp
    exact ⟨d2, by rw [e2]; rfl, w2.mono (by omega), s2, q2, p2⟩
def scanL (a z fst : Int) (f : Int → List Int) : Nat → Int → List Ck.O
  | 0, _ => []
  | r + 1, i => if isB (f (placeV a z (IntKind.u32.wrap (fst + i)))) && decide (uN (f (placeV a z (IntKind.u32.wrap (fst + i)))) = IntKind.u32.wrap (fst + i)) then chkO (f (placeV a z (IntKind.u32.wrap (fst + i)))) :: scanL a z fst f r (i + 1) else []
theorem read_well {d : Dsk} {n : Nat} {k : Int} (h : Well d n k) (b : Int) (hb : 0 ≤ b ∧ b < n) : read d b = (d.seen b, 0, d.tick (d.ops + 1)) := by
  have ha : ask d b = (0, d.tick (d.ops + 1)) := by
    unfold ask
    rw [if_neg (by rw [h.on]; simp), if_pos (by rw [h.size]; exact hb)]; exact count_well h
  unfold read
  rw [ha]; rfl
theorem place_in (a z : Int) (n : Nat) (x : Int) (h : okR a z n = true) : 0 ≤ placeV a z x ∧ placeV a z x < n := by
  have hb3 : 0 ≤ a ∧ 1 ≤ z ∧ a ≤ n - z := by unfold okR at h; simp only [Bool.and_eq_true, decide_eq_true_eq] at h; exact h
  unfold placeV
  have h1 := Int.emod_nonneg x (show z ≠ 0 by omega)
  have h2 := Int.emod_lt_of_pos x (show 0 < z by omega)
  omega
theorem scanF_well {a z fst : Int} {n : Nat} (hk : okR a z n = true) : ∀ (r : Nat) (i : Int) (d : Dsk) (acc : List Ck.O) (k : Int), Well d n k → ∃ j, scanF a z fst r i d acc = (acc ++ scanL a z fst d.seen r i, 0, d.tick j) ∧ Well (d.tick j) n (k + r)
  | 0, i, d, acc, k, h => ⟨d.ops, by rw [scanF_nil]; show _ = (acc ++ [], 0, _); rw [List.append_nil]; rfl, by exact ⟨h.size, h.fuse, h.on, h.fails, h.lo, by have := h.hi; show d.ops ≤ _; omega⟩⟩
  | r + 1, i, d, acc, k, h => by
    have e := read_well h _ (place_in a z n (IntKind.u32.wrap (fst + i)) hk)
    rw [scanF_succ a z fst r i d acc _ _ _ e, if_pos rfl]
    unfold scanL
    by_cases hc : (isB (d.seen (placeV a z (IntKind.u32.wrap (fst + i)))) && decide (uN (d.seen (placeV a z (IntKind.u32.wrap (fst + i)))) = IntKind.u32.wrap (fst + i))) = true
    · rw [if_pos hc, if_pos hc]
      obtain ⟨j, h1, h2⟩ := scanF_well hk r (i + 1) (d.tick (d.ops + 1)) (acc ++ [chkO (d.seen (placeV a z (IntKind.u32.wrap (fst + i))))]) (k + 1) h.tick
      refine ⟨j, ?_, h2.mono (by omega)⟩
      rw [h1, List.append_assoc]; rfl
    · rw [if_neg hc, if_neg hc]
      exact ⟨d.ops + 1, by rw [List.append_nil], h.tick.mono (by omega)⟩
theorem scan_well {a z fst : Int} {n : Nat} {d : Dsk} {k : Int} (hk : okR a z n = true) (h : Well d n k) : ∃ j, scanR a z fst d = (scanL a z fst d.seen z.toNat 0, 0, d.tick j) ∧ Well (d.tick j) n (k + z.toNat) := by
  obtain ⟨j, h1, h2⟩ := scanF_well (fst := fst) hk z.toNat 0 d [] k h
  refine ⟨j, ?_, h2⟩
  unfold scanR
  rw [h.size, hk, if_pos rfl, h1]; rfl
theorem chk_blk (c : Ck.O) (h : c.Ok) : isB (blkC c) = true ∧ uN (blkC c) = c.num ∧ uE (blkC c) = c.ep ∧ chkO (blkC c) = c := by
  have h2 : 1 ≤ c.txt.size ∧ c.txt.size ≤ 214 := by have h3 := h.txt; unfold okC at h3; exact of_decide_eq_true h3
  have hl : 1 ≤ (nums c.txt).length ∧ (nums c.txt).length ≤ 214 := by rw [nums_length]; exact h2
  obtain ⟨k1, k2, k3, k4, k5⟩ := packed c.ep c.num c.off (nums c.txt) h.ep h.num h.off hl (nums_bytes _)
  obtain ⟨k6, _⟩ := packed_is c.ep c.num c.off (nums c.txt) h.ep h.num h.off hl (nums_bytes _)
  refine ⟨k6, k3, k2, ?_⟩
  unfold chkO blkC
  rw [k2, k3, k4, k5, tx_nums]
end Go.Proofs.Ytgnedbagelhcbaa
