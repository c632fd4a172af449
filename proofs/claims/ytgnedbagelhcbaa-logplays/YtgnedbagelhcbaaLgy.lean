/-
  Proved here: each call of a log, over the log and its disk in memory: Append, Flush, Scan, End, Durable, Free, Tail, From.
-/
import Derived.Test.YtgnedbagelhcbaaLgw
import Derived.Test.YtgnedbagelhcbaaLgv
import Derived.Test.YtgnedbagelhcbaaLge
import Derived.Test.YtgnedbagelhcbaaMdk
namespace Go.Proofs.Ytgnedbagelhcbaa
open Go.ChangeShapes Go.WideShapes Go.ChangeAt Go.RowKit
set_option linter.unusedVariables false
set_option linter.unusedSimpArgs false
set_option maxRecDepth 20000
theorem LD.turn {w wr w' : World} {gl gd : Nat} {F : Nat → Prop} {l l2 : Lg} {d : Dsk} {M : Nat} {vl vs vs2 : Value} {L : Loc} (h1 : LD wr gl gd vl vs L l d M) (h2 : Off F w wr) (h3 : ∀ j, lfoot gl gd vl vs L j → F j ∨ w.heap.size ≤ j)
    (k1 : Row w' gl (lcells (.pointer (some ⟨gd, 0, none⟩)) vl vs2 l2) 102) (k2 : Ck.Own w' (gl + 1) vs2 l2.sealed) (k3 : Off (fun j => j = gl ∨ vs.ownBlock = some j) wr w') (k4 : ∀ j, vs2.ownBlock = some j → vs.ownBlock = some j ∨ wr.heap.size ≤ j) (hl : l2.last = l.last) : LStep w gl gd F l2 d M w' := by
  have hU : OwnU w' (gl + 1) vl l2.last := by
    rw [hl]
    refine h1.last.off k3 (fun j q => ?_)
    rintro (q2 | q2)
    · have := (World.ownsRow.lt h1.last j q).1; omega
    · exact own_apartU h1.last h1.sld q q2
  refine ⟨vl, vs2, L, ⟨k1, hU, k2, h1.dsk.off k3 (fun j q => ?_), h1.ng, h1.nl, fun j q q2 => ?_⟩, h2.trans k3 (fun j q => ?_), fun j q => ?_⟩
  · rintro (q2 | q2)
    · subst q2; exact h1.ng q
    · exact h1.ns j q2 q
  · rcases k4 j q with q3 | q3
    · exact h1.ns j q3 q2
    · have := h1.dsk.lt q2; omega
  · rcases q with q | q
    · exact h3 j (Or.inl q)
    · exact h3 j (Or.inr (Or.inr (Or.inl q)))
  · rcases q with q | q | q | q
    · exact h3 j (Or.inl q)
    · exact h3 j (Or.inr (Or.inl q))
    · rcases k4 j q with q3 | q3
      · exact h3 j (Or.inr (Or.inr (Or.inl q3)))
      · have := h2.size; exact Or.inr (by omega)
    · exact h3 j (Or.inr (Or.inr (Or.inr q)))
theorem sealN_last (l : Lg) : ∀ k, (l.sealN k).last = l.last
  | 0 => rfl
  | k + 1 => sealN_last l k
theorem sealN_ep (l : Lg) : ∀ k, (l.sealN k).ep = l.ep
  | 0 => rfl
  | k + 1 => sealN_ep l k
theorem sealN_at (l : Lg) : ∀ k, (l.sealN k).at_ = l.at_
  | 0 => rfl
  | k + 1 => sealN_at l k
theorem sealN_size (l : Lg) : ∀ k, (l.sealN k).size = l.size
  | 0 => rfl
  | k + 1 => sealN_size l k
def okA (l : Lg) (s : ByteArray) : Bool := okF s && !fullA l (frS s)
def appE (l : Lg) (s : ByteArray) : Int := if okF s = true then if fullA l (frS s) = true then 5 else 0 else 1
def appA (l : Lg) (s : ByteArray) : Int := if okA l s = true then l.fin else 0
def appL (l : Lg) (s : ByteArray) : Lg := if okA l s = true then l.app (frS s) else l
theorem LStep.app {w wr : World} {gl gd : Nat} {F : Nat → Prop} {l : Lg} {d : Dsk} {M : Nat} (h : LStep w gl gd F l d M wr) (s : ByteArray) (hs : s.size ≤ maxLen) (hla : l.last.length ≤ 1000000) (hsl : l.sealed.length ≤ 800) (hop : l.open_.size ≤ 10000) (hf : (l.open_.size : Int) ≤ l.fin ∧ l.fin ≤ 9223372036854775807) (hx : 0 ≤ l.next ∧ l.next ≤ 4294967295) :
    Calls Try.prog 13 #[.pointer (some ⟨gl, 0, none⟩), .string s] wr fun e w' => e = .returned (.tuple #[.int .u64 (appA l s), .int .i64 (appE l s)]) ∧ LStep w gl gd F (appL l s) d M w' := by
  have h0 := h
  obtain ⟨vl, vs, L, h1, h2, h3⟩ := h
  refine (lapp_any wr gl _ vl vs l s h1.row h1.last h1.sld hs hla hsl hop hf hx).mono ?_
  rintro e w' ⟨q1, q2, q3⟩
  unfold appA appE appL okA
  cases hk : okF s with
  | false =>
    obtain ⟨rfl, hb⟩ := q1 hk
    exact ⟨rfl, h0.below hb⟩
  | true =>
    cases hu : fullA l (frS s) with
    | true =>
      obtain ⟨rfl, hb⟩ := q2 hk hu
      exact ⟨rfl, h0.below hb⟩
    | false =>
      obtain ⟨rfl, vs2, k1, k2, k3, k4⟩ := q3 hk hu
      exact ⟨rfl, h1.turn h2 h3 k1 k2 k3 k4 (sealN_last _ _)⟩
structure Lg.Inv (l : Lg) : Prop where
  at_ : 0 ≤ l.at_ ∧ l.at_ ≤ 4294967295
  size : 1 ≤ l.size ∧ l.size ≤ 700
  ep : 0 ≤ l.ep ∧ l.ep ≤ 4294967295
  next : 0 ≤ l.next ∧ l.next ≤ 4294967295
  op : l.open_.size < 214
  fin : (l.open_.size : Int) ≤ l.fin
  ok : ∀ c ∈ l.sealed, c.Ok
  room : (l.last.length : Int) + l.sealed.length + wantN l.open_.size ≤ l.size
theorem Lg.Inv.few {l : Lg} (h : l.Inv) : l.last.length ≤ 700 ∧ l.sealed.length ≤ 700 ∧ (l.open_.size ≠ 0 → l.sealed.length ≤ 699) := by
  have h1 := h.room
  have h2 := h.size
  have h3 : 0 ≤ wantN l.open_.size := by unfold wantN; omega
  refine ⟨by omega, by omega, fun hq => ?_⟩
  have h4 : 1 ≤ wantN l.open_.size := by unfold wantN; omega
  omega
theorem closed_ok {l : Lg} (h : l.Inv) (hf : l.fin ≤ 18446744073709551615) : ∀ c ∈ l.closed.sealed, c.Ok := by
  unfold Lg.closed
  split
  · exact h.ok
  · rename_i ho
    intro c hc
    rcases List.mem_append.1 hc with q | q
    · exact h.ok c q
    · obtain rfl := List.mem_singleton.1 q
      refine ⟨h.ep, h.next, ?_, ?_⟩
      · have := h.fin; show 0 ≤ l.fin - l.open_.size ∧ l.fin - l.open_.size ≤ _; omega
      · show okC (l.open_.extract 0 l.open_.size) = true
        unfold okC
        rw [ByteArray.size_extract]
        have := h.op
        exact decide_eq_true (by omega)
theorem closed_len {l : Lg} (h : l.Inv) : l.closed.sealed.length ≤ 700 ∧ l.closed.sealed.length ≤ l.sealed.length + 1 ∧ l.closed.at_ = l.at_ ∧ l.closed.size = l.size ∧ l.closed.last = l.last := by
  have hf := h.few
  unfold Lg.closed
  split
  · exact ⟨hf.2.1, by omega, rfl, rfl, rfl⟩
  · rename_i ho
    have h1 : (l.seal l.open_.size).sealed.length = l.sealed.length + 1 := by
      show (l.sealed ++ [_]).length = _
      rw [List.length_append]; rfl
    rw [h1]
    exact ⟨by have := hf.2.2 ho; omega, Nat.le_refl _, rfl, rfl, rfl⟩
theorem LStep.flush {w wr : World} {gl gd : Nat} {F : Nat → Prop} {l : Lg} {d : Dsk} {M : Nat} (h : LStep w gl gd F l d M wr) (hi : l.Inv) (hfi : l.fin ≤ 18446744073709551615) (hop : d.ops + 1000 < 9223372036854775806) (hN : M + 10000 < 1000000000000) :
    Calls Try.prog 15 #[.pointer (some ⟨gl, 0, none⟩)] wr fun e w' => e = .returned (.int .i64 (flushR l d).1) ∧ LStep w gl gd F (flushR l d).2.1 (flushR l d).2.2 (M + 4000) w' := by
  have hcl := closed_len hi
  have hck := closed_ok hi hfi
  have hfew := hi.few
  have ha := hi.at_
  have hz := hi.size
  unfold flushR
  have main : Calls Try.prog 15 #[.pointer (some ⟨gl, 0, none⟩)] wr fun e w' => e = .returned (.int .i64 (flushC l.closed d).1) ∧ LStep w gl gd F (flushC l.closed d).2.1 (flushC l.closed d).2.2 (M + 4 * (l.closed.sealed.length + 1)) w' := by
    by_cases ho : l.open_.size = 0
    · have e1 : l.closed = l := by unfold Lg.closed; rw [if_pos ho]
      rw [e1] at hcl hck ⊢
      exact flush_shut w wr gl gd F l d M h ho (by omega) hck ha (by omega) (by omega) (by omega) (by omega)
    · have e1 : l.closed = l.seal l.open_.size := by unfold Lg.closed; rw [if_neg ho]
      exact flush_open w wr gl gd F l l.closed d M h ho e1 (by omega) ⟨hi.fin, hfi⟩ hi.next (by have := hi.op; omega) (by omega) hck (by rw [hcl.2.2.1]; exact ha) (by rw [hcl.2.2.2.1]; omega) (by rw [hcl.2.2.2.2]; omega) (by omega) (by omega)
  refine main.mono ?_
  rintro e w' ⟨rfl, q⟩
  exact ⟨rfl, q.grow (by omega) (by omega)⟩
def SStep (w wr : World) (gl gd : Nat) (F : Nat → Prop) (l : Lg) (M : Nat) (r : List Ck.O × Int × Dsk) (e : Ending) (w' : World) : Prop :=
  ∃ v, e = .returned (.tuple #[v, .int .i64 r.2.1]) ∧ Ck.Own w' wr.heap.size v r.1 ∧ LStep w gl gd F l r.2.2 M w'
theorem LStep.scan {w wr : World} {gl gd : Nat} {F : Nat → Prop} {l : Lg} {d : Dsk} {M : Nat} (h : LStep w gl gd F l d M wr) (a z fst : Int) (hz : -9223372036854775808 ≤ z ∧ z ≤ 9223372036854775807) (hf : 0 ≤ fst ∧ fst ≤ 4294967295) (hop : d.ops + 3000 < 9223372036854775806) :
    Calls Try.prog 34 #[.pointer (some ⟨gd, 0, none⟩), .int .i64 a, .int .i64 z, .int .u32 fst] wr fun e w' => SStep w wr gl gd F l M (scanR a z fst d) e w' := by
  obtain ⟨vl, vs, L, h1, h2, h3⟩ := h
  refine (scan_any wr gd d L M a z fst h1.dsk hz hf hop).mono ?_
  rintro e w' ⟨v, rfl, k1, k2, k3⟩
  refine ⟨v, rfl, k1, vl, vs, L, ⟨h1.row.off k3 h1.ng, h1.last.off k3 h1.nl, h1.sld.off k3 h1.ns, k2, h1.ng, h1.nl, h1.ns⟩, h2.trans k3 (fun j q => h3 j (Or.inr (Or.inr (Or.inr q)))), h3⟩
theorem LStep.fin {w wr : World} {gl gd : Nat} {F : Nat → Prop} {l : Lg} {d : Dsk} {M : Nat} (h : LStep w gl gd F l d M wr) : Calls Try.prog 23 #[.pointer (some ⟨gl, 0, none⟩)] wr fun e w' => e = .returned (.int .u64 l.fin) ∧ LStep w gl gd F l d M w' := by
  have h0 := h
  obtain ⟨vl, vs, L, h1, h2, h3⟩ := h
  exact (end_any gl _ vl vs l wr h1.row).mono (by rintro e w' ⟨rfl, q⟩; exact ⟨rfl, h0.below q⟩)
theorem LStep.dur {w wr : World} {gl gd : Nat} {F : Nat → Prop} {l : Lg} {d : Dsk} {M : Nat} (h : LStep w gl gd F l d M wr) : Calls Try.prog 24 #[.pointer (some ⟨gl, 0, none⟩)] wr fun e w' => e = .returned (.int .u64 l.dur) ∧ LStep w gl gd F l d M w' := by
  have h0 := h
  obtain ⟨vl, vs, L, h1, h2, h3⟩ := h
  exact (dur_any gl _ vl vs l wr h1.row).mono (by rintro e w' ⟨rfl, q⟩; exact ⟨rfl, h0.below q⟩)
theorem LStep.free {w wr : World} {gl gd : Nat} {F : Nat → Prop} {l : Lg} {d : Dsk} {M : Nat} (h : LStep w gl gd F l d M wr) (hi : l.Inv) : Calls Try.prog 25 #[.pointer (some ⟨gl, 0, none⟩)] wr fun e w' => e = .returned (.int .i64 (l.size - ((l.last.length : Int) + l.sealed.length) - wantN l.open_.size)) ∧ LStep w gl gd F l d M w' := by
  have h0 := h
  have hw := hi.few
  have hz := hi.size
  have ho := hi.op
  obtain ⟨vl, vs, L, h1, h2, h3⟩ := h
  obtain ⟨oa, ca, e1⟩ := h1.last.form
  obtain ⟨ob, cb, e2⟩ := h1.sld.form
  have hr := h1.row
  rw [e1, e2] at hr
  exact (free_any gl _ l oa ob _ _ ca cb wr hr (by omega) (by omega) (by omega) (by omega)).mono (by rintro e w' ⟨rfl, q⟩; exact ⟨rfl, h0.below q⟩)
theorem LStep.tail {w wr : World} {gl gd : Nat} {F : Nat → Prop} {l : Lg} {d : Dsk} {M : Nat} (h : LStep w gl gd F l d M wr) (hn : l.last.length ≤ 1000000) (hm : l.sealed.length ≤ 1000000) : Calls Try.prog 27 #[.pointer (some ⟨gl, 0, none⟩)] wr fun e w' => e = .returned (.int .u32 (IntKind.u32.wrap (l.next - ((l.last.length : Int) + l.sealed.length)))) ∧ LStep w gl gd F l d M w' := by
  have h0 := h
  obtain ⟨vl, vs, L, h1, h2, h3⟩ := h
  obtain ⟨oa, ca, e1⟩ := h1.last.form
  obtain ⟨ob, cb, e2⟩ := h1.sld.form
  have hr := h1.row
  rw [e1, e2] at hr
  exact (tail_any gl _ l oa ob _ _ ca cb wr hr hn hm).mono (by rintro e w' ⟨rfl, q⟩; exact ⟨rfl, h0.below q⟩)
def fromV (l : Lg) (lsn : Int) : Int := IntKind.u32.wrap (IntKind.u32.wrap (l.next - ((l.last.length : Int) + l.sealed.length)) + (spentL l.dur lsn l.last : Nat))
theorem LStep.from {w wr : World} {gl gd : Nat} {F : Nat → Prop} {l : Lg} {d : Dsk} {M : Nat} (h : LStep w gl gd F l d M wr) (lsn : Int) (hn : l.last.length ≤ 1000000) (hm : l.sealed.length ≤ 1000000) : Calls Try.prog 17 #[.pointer (some ⟨gl, 0, none⟩), .int .u64 lsn] wr fun e w' => e = .returned (.int .u32 (fromV l lsn)) ∧ LStep w gl gd F l d M w' := by
  have h0 := h
  obtain ⟨vl, vs, L, h1, h2, h3⟩ := h
  exact (from_any gl _ vl vs l lsn wr h1.row h1.last h1.sld hn hm).mono (by rintro e w' ⟨rfl, q⟩; exact ⟨rfl, h0.below q⟩)
end Go.Proofs.Ytgnedbagelhcbaa
