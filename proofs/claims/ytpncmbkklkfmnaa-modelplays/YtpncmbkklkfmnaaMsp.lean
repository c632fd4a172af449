/-
  Proved here: both machines side by side in memory, call by call.
-/
import Derived.Test.YtpncmbkklkfmnaaMsd
namespace Go.Proofs.Ytpncmbkklkfmnaa
open Go.ChangeShapes Go.WideShapes Go.ChangeAt Go.RowKit
open Go.Deep Go.Maps
set_option linter.unusedVariables false
set_option linter.unusedSimpArgs false
set_option maxRecDepth 20000


theorem doS_len (s : St) (c : Cal) : (doS s c).pages.length = s.pages.length := by
  by_cases h7 : c.kind < 7
  · exact (doS_same s c h7).1
  · unfold doS
    split
    · rfl
    · rw [if_neg (by omega), if_neg (by omega), if_neg (by omega)]
      split <;> rfl
/-- Both machines, the program's and the document's. -/
structure Two (w : World) (F : Nat → Prop) (g : Nat) (s : St) (r n : Nat) (mx : Int) (v : Value) (ds : List Dn) (W : World) : Prop where
  ms : MS w F g s W
  rm : RM w W r n mx v ds
  nr : ¬ F r
  nv : ∀ k, v.ownBlock = some k → ¬ F k
  both : Both s ds
  ts : ∀ d ∈ ds, 0 ≤ d.r.ts
  len : s.pages.length = n
  max : s.max = mx
  bg : s.begun ≤ ds.length
/-- The program's has done a call, the document's hasn't yet. -/
structure Half (w : World) (F : Nat → Prop) (g : Nat) (s : St) (c : Cal) (r n : Nat) (mx : Int) (v : Value) (ds : List Dn) (W : World) : Prop where
  ms : MS w F g (doS s c) W
  rm : RM w W r n mx v ds
  nr : ¬ F r
  nv : ∀ k, v.ownBlock = some k → ¬ F k
  both : Both s ds
  ok : s.Ok
  ts : ∀ d ∈ ds, 0 ≤ d.r.ts
  len : s.pages.length = n
  max : s.max = mx
  bg : s.begun ≤ ds.length
theorem RM.own_lt {w0 w : World} {r n : Nat} {mx : Int} {v : Value} {ds : List Dn} (h : RM w0 w r n mx v ds) {k : Nat} (hk : v.ownBlock = some k) : w0.heap.size ≤ k ∧ k < w.heap.size := World.ownsRow.lt h.own k hk
theorem RM.own_is {w0 w : World} {r n : Nat} {mx : Int} {v : Value} {ds : List Dn} (h : RM w0 w r n mx v ds) {k : Nat} (hk : v.ownBlock = some k) : isCells w k 63 := by
  rcases h.own.2 with ⟨e, _⟩ | ⟨g', cap', cur, e, _, hcc, _⟩
  · rw [e] at hk; cases hk
  · rw [e] at hk; cases hk
    exact ⟨cur, hcc⟩
theorem RM.free {w0 w : World} {r n : Nat} {mx : Int} {v : Value} {ds : List Dn} (h : RM w0 w r n mx v ds) {k : Nat} {t : TypeId} (hk : isCells w k t) (h1 : t ≠ 30) (h2 : t ≠ 63) : ¬ (k = r ∨ v.ownBlock = some k) := by
  rintro (q | q)
  · exact ne_types hk (row_is h.row) h1 q
  · exact ne_types hk (h.own_is q) h2 rfl
theorem Two.below {w : World} {F : Nat → Prop} {g : Nat} {s : St} {r n : Nat} {mx : Int} {v : Value} {ds : List Dn} {W W' : World} (t : Two w F g s r n mx v ds W) (hb : Below W.heap.size W W') : Two w F g s r n mx v ds W' := { t with ms := t.ms.below hb, rm := t.rm.below hb }
theorem Two.call {w : World} {F : Nat → Prop} {g : Nat} {s : St} {r n : Nat} {mx : Int} {v : Value} {ds : List Dn} {W : World} (t : Two w F g s r n mx v ds W) (c : Cal) (hc : c.Ok) :
    Calls Try.prog 12 #[.pointer (some ⟨g, 0, none⟩), .agg c.arr] W fun e W' => e = .returned (.agg (doR s c).arr) ∧ ∃ F', Half w F' g s c r n mx v ds W' ∧ Off F W W' ∧ ∀ k, k < W.heap.size → F' k → F k :=
  (t.ms.call c hc (by have := t.bg; have := t.rm.few; omega)).mono fun e W' h => by
    obtain ⟨h1, F', h2, h3, h4⟩ := h
    refine ⟨h1, F', ⟨h2, t.rm.off h3 t.nr t.nv, fun q => t.nr (h4 _ t.rm.row.lt q), fun k hk q => t.nv k hk (h4 k (t.rm.own_lt hk).2 q), t.both, t.ms.at_.ok, t.ts, t.len, t.max, t.bg⟩, h3, h4⟩
theorem Half.call {w : World} {F : Nat → Prop} {g : Nat} {s : St} {c : Cal} {r n : Nat} {mx : Int} {v : Value} {ds : List Dn} {W : World} (t : Half w F g s c r n mx v ds W) (hc : c.Ok) (hfew : ds.length < 40) :
    Calls Try.prog 13 #[.pointer (some ⟨r, 0, none⟩), .agg c.arr] W fun e W' => e = .returned (.agg (doR s c).arr) ∧ ∃ v', Two w F g (doS s c) r n mx v' (ds ++ [⟨c, doR s c⟩]) W' ∧ Off (fun k => k = r ∨ v.ownBlock = some k) W W' :=
  (do_ref t.rm hfew c hc (doR s c) (doR_len t.ok hc) t.ms.bel.size (fun W' hW => answer_ref hW t.len t.max t.both t.ok t.ts c hc)).mono fun e W' h => by
    obtain ⟨h1, v', h2, h3, h4⟩ := h
    refine ⟨h1, v', ⟨t.ms.off h3 (fun k hk => ?_), h2, t.nr, fun k hk q => ?_, t.both.step t.ok hc, fun d hd => ?_, (doS_len s c).trans t.len, (doS_max s c).trans t.max, ?_⟩, h3⟩
    · rcases hk with rfl | hk
      · exact ⟨t.rm.lo, t.nr⟩
      · exact ⟨(t.rm.own_lt hk).1, t.nv k hk⟩
    · rcases h4 k hk with y | y
      · exact t.nv k y q
      · have := t.ms.at_.lt q; omega
    · rcases List.mem_append.1 hd with y | y
      · exact t.ts d y
      · simp at y; subst y; exact (doR_ts t.ok hc).1
    · have := (doS_begun s c).2
      have := t.bg
      rw [List.length_append]
      simp
      omega
theorem Two.last {w : World} {F : Nat → Prop} {g : Nat} {s : St} {r n : Nat} {mx : Int} {v : Value} {ds : List Dn} {W : World} (t : Two w F g s r n mx v ds W) : Calls Try.prog 14 #[.pointer (some ⟨g, 0, none⟩)] W fun e W' => e = .returned (.int .u32 s.last) ∧ W' = W := t.ms.last
theorem Two.rlast {w : World} {F : Nat → Prop} {g : Nat} {s : St} {r n : Nat} {mx : Int} {v : Value} {ds : List Dn} {W : World} (t : Two w F g s r n mx v ds W) : Calls Try.prog 15 #[.pointer (some ⟨r, 0, none⟩)] W fun e W' => e = .returned (.int .u32 s.last) ∧ Below W.heap.size W W' := by
  have := last_ref t.rm
  rw [t.both.rel.ls] at this
  exact this
theorem Two.at_ {w : World} {F : Nat → Prop} {g : Nat} {s : St} {r n : Nat} {mx : Int} {v : Value} {ds : List Dn} {W : World} (t : Two w F g s r n mx v ds W) (k ts : Int) (h0 : 0 ≤ k) (h1 : k ≤ 65535) (h2 : 0 ≤ ts) : Calls Try.prog 16 #[.pointer (some ⟨g, 0, none⟩), .int .u16 k, .int .u32 ts] W fun e W' => e = .returned (.agg (atV (s.pg k) ts).arr) ∧ Below W.heap.size W W' :=
  (t.ms.at_page k ts h0 h1 h2).mono fun e W' h => by
    refine ⟨h.1.trans ?_, h.2.2⟩
    unfold St.pg
    by_cases q : k < s.pages.length
    · rw [if_pos q, if_pos q]
    · rw [if_neg q, if_neg q]
      have : atV [Ver.zero] ts = Ver.zero := by
        unfold atV
        simp only [List.reverse_cons, List.reverse_nil, List.nil_append, List.find?_cons, List.find?_nil]
        have : decide (Ver.zero.ts ≤ ts) = true := decide_eq_true h2
        rw [this]; rfl
      rw [this]
theorem Two.rat {w : World} {F : Nat → Prop} {g : Nat} {s : St} {r n : Nat} {mx : Int} {v : Value} {ds : List Dn} {W : World} (t : Two w F g s r n mx v ds W) (k ts : Int) (h0 : 0 ≤ k) (h2 : 0 ≤ ts) : Calls Try.prog 17 #[.pointer (some ⟨r, 0, none⟩), .int .u16 k, .int .u32 ts] W fun e W' => e = .returned (.agg (atV (s.pg k) ts).arr) ∧ Below W.heap.size W W' :=
  at_ref t.both.rel t.ms.at_.ok k h0 t.ts _ ts h2 (Nat.le_refl _) W t.rm
theorem Two.vok {w : World} {F : Nat → Prop} {g : Nat} {s : St} {r n : Nat} {mx : Int} {v : Value} {ds : List Dn} {W : World} (t : Two w F g s r n mx v ds W) (k ts : Int) (h0 : 0 ≤ k) (h2 : 0 ≤ ts) : (atV (s.pg k) ts).Ok := atV_ok (pg_ok t.ms.at_.ok h0) h2
theorem Two.start {w W : World} {F : Nat → Prop} {g n : Nat} {mx : Int} (ms : MS w F g (newS n mx) W) : Two w F g (newS n mx) W.heap.size n mx (.slice none 0 0) [] (W.alloc (.cells #[.int .i64 n, .int .u32 mx, .slice none 0 0] 30)) :=
  ⟨ms.below ((Below.refl _ _).alloc (Nat.le_refl _) _), ⟨Row.new _ _ _, ⟨rfl, Or.inl ⟨rfl, rfl⟩⟩, fun d hd => (nomatch hd), ms.bel.size, Nat.zero_le _⟩, ms.fresh, (fun k hk => by cases hk), ⟨(Rel.start n mx).1, fun _ => (Rel.start n mx).2⟩, fun d hd => (nomatch hd), by simp [newS], rfl, Int.le_refl _⟩
end Go.Proofs.Ytpncmbkklkfmnaa
