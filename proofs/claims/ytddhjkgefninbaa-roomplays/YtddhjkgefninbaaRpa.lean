/-
  Two rooms side by side: the program's and the document's.
-/
import Derived.Test.YtddhjkgefninbaaRoq
namespace Go.Proofs.Ytddhjkgefninbaa
open Go.ChangeShapes Go.WideShapes Go.ChangeAt Go.RowKit
set_option linter.unusedVariables false
set_option linter.unusedSimpArgs false
set_option maxRecDepth 20000

/-- Both rooms, made in a walk that began in w. -/
structure Pb (w wr : World) (g a q b : Nat) (ps qs : List Pge) (l m : Nat) : Prop where
  r : RAt wr g a ps l
  s : QAt wr q b qs m
  ab : a ≠ b
  lo : w.heap.size ≤ g ∧ w.heap.size ≤ a ∧ w.heap.size ≤ q ∧ w.heap.size ≤ b
  be : Below w.heap.size w wr
theorem Pb.apart {w wr : World} {g a q b : Nat} {ps qs : List Pge} {l m : Nat} (h : Pb w wr g a q b ps qs l m) : (∀ k, two g a k → ¬ two q b k) ∧ ∀ k, two q b k → ¬ two g a k := by
  have h1 : g ≠ q := h.r.room.ne h.s.room (by decide)
  have h2 : g ≠ b := h.r.room.ne h.s.arr (by decide)
  have h3 : a ≠ q := h.r.arr.ne h.s.room (by decide)
  have h4 := h.ab
  constructor
  · rintro k (rfl | rfl) (q | q)
    · exact h1 q
    · exact h2 q
    · exact h3 q
    · exact h4 q
  · rintro k (rfl | rfl) (q | q)
    · exact h1 q.symm
    · exact h3 q.symm
    · exact h2 q.symm
    · exact h4 q.symm
theorem Pb.down {w wr wr' : World} {g a q b : Nat} {ps qs : List Pge} {l m : Nat} (h : Pb w wr g a q b ps qs l m) (hb : Below wr.heap.size wr wr') : Pb w wr' g a q b ps qs l m :=
  ⟨h.r.below hb, h.s.below hb, h.ab, h.lo, h.be.trans (hb.mono h.be.size)⟩
theorem Pb.stepR {w wr wr' : World} {g a q b : Nat} {ps qs ps' : List Pge} {l m l' : Nat} (h : Pb w wr g a q b ps qs l m) (hr : RAt wr' g a ps' l') (o : Off (two g a) wr wr') : Pb w wr' g a q b ps' qs l' m :=
  ⟨hr, h.s.off o h.apart.2 (fun k cs hk => h.r.apart k cs hk), h.ab, h.lo, h.be.trans (o.below h.be.size (fun k hk => by
    rcases hk with rfl | rfl
    · exact h.lo.1
    · exact h.lo.2.1))⟩
theorem Pb.stepQ {w wr wr' : World} {g a q b : Nat} {ps qs qs' : List Pge} {l m m' : Nat} (h : Pb w wr g a q b ps qs l m) (hs : QAt wr' q b qs' m') (o : Off (two q b) wr wr') : Pb w wr' g a q b ps qs' l m' :=
  ⟨h.r.off o h.apart.1 (fun k cs hk => h.s.apart k cs hk), hs, h.ab, h.lo, h.be.trans (o.below h.be.size (fun k hk => by
    rcases hk with rfl | rfl
    · exact h.lo.2.2.1
    · exact h.lo.2.2.2))⟩
theorem Row.offTwo {w w' : World} {g a k : Nat} {cs : Array Value} {t : TypeId} (h : Row w k cs t) (o : Off (two g a) w w') (h1 : k ≠ g) (h2 : k ≠ a) : Row w' k cs t := h.off o (fun q => by
  rcases q with q | q
  · exact h1 q
  · exact h2 q)
/-- All that the loop keeps. -/
def Loop (w wr : World) (g a q b n : Nat) : Prop := ∃ ps qs l, Pb w wr g a q b ps qs l l ∧ Alk ps qs ∧ (∀ p ∈ qs, ∀ x ∈ p.os, x.Fits) ∧ qs.length = n
/-- Behind Note of the program's room. -/
def NoteR (w wr : World) (g a q b : Nat) (ps qs : List Pge) (l : Nat) (no : Int) (lsn : Int) (os : List O) (w' : World) : Prop :=
  ∃ ps', Pb w w' g a q b ps' qs l l ∧ Off (two g a) wr w' ∧ ps'.map Pge.key = if 0 ≤ no ∧ no < qs.length then (ps.map Pge.key).set no.toNat (lsn, os) else ps.map Pge.key
theorem noteR_any {w wr : World} {g a q b : Nat} {ps qs : List Pge} {l : Nat} (h : Pb w wr g a q b ps qs l l) (ha : Alk ps qs) (no : Int) (lsn : Int) (v : Value) (os : List O) (ho : Olds wr v os) (hl : os.length ≤ 1000) :
    Calls Try.prog 6 #[.pointer (some ⟨g, 0, none⟩), .int .i64 no, .agg #[.int .u64 lsn, v]] wr fun e w' => e = .returned (.tuple #[]) ∧ NoteR w wr g a q b ps qs l no lsn os w' := by
  have hlen := ha.len
  by_cases hi : 0 ≤ no ∧ no < qs.length
  · obtain ⟨i, rfl⟩ : ∃ i : Nat, no = i := ⟨no.toNat, by omega⟩
    refine (note_in h.r i (by omega) lsn v os ho hl).mono ?_
    rintro e w' ⟨v', rfl, h1, h2⟩
    refine ⟨rfl, _, h.stepR h1 h2, h2, ?_⟩
    rw [if_pos hi, List.map_set]
    rfl
  · have hh := has_any (h.r.below ((Below.refl _ _).alloc (Nat.le_refl _) (.cells #[.int .u64 lsn, v] 33))) no
    rw [decide_eq_false (by rw [hlen]; exact hi)] at hh
    refine (note_out (.pointer (some ⟨g, 0, none⟩)) ⟨_, rfl⟩ no lsn v wr (fun _ _ => trivial) hh).mono ?_
    rintro e w' ⟨rfl, hb⟩
    refine ⟨rfl, ps, h.down hb, Off.of_below hb, ?_⟩
    rw [if_neg hi]
theorem noteQ_any {w wr : World} {g a q b n : Nat} {ps0 ps qs : List Pge} {l : Nat} (h : Pb w wr g a q b ps qs l l) (ha : Alk ps0 qs) (hf : ∀ p ∈ qs, ∀ x ∈ p.os, x.Fits) (hn : qs.length = n) (no : Int) (lsn : Int) (v : Value) (os : List O) (ho : Olds wr v os) (hl : os.length ≤ 1000) (hof : ∀ x ∈ os, x.Fits)
    (hk : ps.map Pge.key = if 0 ≤ no ∧ no < qs.length then (ps0.map Pge.key).set no.toNat (lsn, os) else ps0.map Pge.key) :
    Calls Try.prog 8 #[.pointer (some ⟨q, 0, none⟩), .int .i64 no, .agg #[.int .u64 lsn, v]] wr fun e w' => e = .returned (.tuple #[]) ∧ Loop w w' g a q b n ∧ Off (two q b) wr w' := by
  by_cases hi : 0 ≤ no ∧ no < qs.length
  · obtain ⟨i, rfl⟩ : ∃ i : Nat, no = i := ⟨no.toNat, by omega⟩
    rw [if_pos hi] at hk
    refine (qnote_in h.s i (by omega) lsn v os ho hl).mono ?_
    rintro e w' ⟨v', rfl, h1, h2⟩
    refine ⟨rfl, ⟨ps, qs.set i ⟨lsn, v', os⟩, l, h.stepQ h1 h2, ?_, fun p hp => ?_, by rw [List.length_set]; exact hn⟩, h2⟩
    · unfold Alk
      rw [hk, List.map_set]
      have ha' : ps0.map Pge.key = qs.map Pge.key := ha
      rw [ha']
      rfl
    · rcases List.mem_or_eq_of_mem_set hp with q | q
      · exact hf p q
      · rw [q]; exact hof
  · rw [if_neg hi] at hk
    refine (qnote_out h.s no hi lsn v).mono ?_
    rintro e w' ⟨rfl, hb⟩
    exact ⟨rfl, ⟨ps, qs, l, h.down hb, by unfold Alk; rw [hk]; exact ha, hf, hn⟩, Off.of_below hb⟩
/-- Page of the program's room is what the document's says. -/
def PageIs (w wr : World) (qs : List Pge) (no : Int) (e : Ending) (w' : World) : Prop :=
  ∃ v' lsn os, e = .returned (.agg #[.int .u64 lsn, v']) ∧ Olds w' v' os ∧ Below wr.heap.size wr w' ∧ os.length ≤ 1000 ∧
    ((0 ≤ no ∧ no < qs.length → ∃ p, qs[no.toNat]? = some p ∧ p.lsn = lsn ∧ p.os = os) ∧ (¬ (0 ≤ no ∧ no < qs.length) → lsn = 0 ∧ os = []))
theorem pageR_any {w wr : World} {g a q b : Nat} {ps qs : List Pge} {l : Nat} (h : Pb w wr g a q b ps qs l l) (ha : Alk ps qs) (no : Int) :
    Calls Try.prog 12 #[.pointer (some ⟨g, 0, none⟩), .int .i64 no] wr fun e w' => PageIs w wr qs no e w' := by
  have hlen := ha.len
  by_cases hi : 0 ≤ no ∧ no < qs.length
  · obtain ⟨i, rfl⟩ : ∃ i : Nat, no = i := ⟨no.toNat, by omega⟩
    obtain ⟨p, hp⟩ : ∃ p, ps[i]? = some p := ⟨ps[i]'(by omega), List.getElem?_eq_getElem (by omega)⟩
    obtain ⟨p2, hp2, e1, e2⟩ := ha.at hp
    refine (page_in h.r i p hp).mono ?_
    rintro e w' ⟨v', rfl, h1, h2⟩
    exact ⟨v', p.lsn, p.os, rfl, h1.olds, h2, h.r.len p (List.mem_of_getElem? hp), fun _ => ⟨p2, by rw [Int.toNat_natCast]; exact hp2, e1, e2⟩, fun q => absurd hi q⟩
  · have hh := has_any (h.r.below ((Below.refl _ _).alloc (Nat.le_refl _) (.cells #[.int .u64 0, .slice none 0 0] 33))) no
    rw [decide_eq_false (by rw [hlen]; exact hi)] at hh
    refine (page_out (.pointer (some ⟨g, 0, none⟩)) ⟨_, rfl⟩ no wr hh).mono ?_
    rintro e w' ⟨rfl, hb⟩
    exact ⟨.slice none 0 0, 0, [], rfl, Or.inl ⟨rfl, rfl⟩, hb, by simp, fun q => absurd q hi, fun _ => ⟨rfl, rfl⟩⟩
/-- Find of both rooms. -/
theorem findR_any {w wr : World} {g a q b : Nat} {ps qs : List Pge} {l : Nat} (h : Pb w wr g a q b ps qs l l) (ha : Alk ps qs) (no : Int) (x : Nat) (y : Bool) (z : Nat) (hx : (findP qs l no).getD 0 = x) (hy : (findP qs l no).isSome = y) (hz : (findP qs l no).getD l = z) :
    Calls Try.prog 9 #[.pointer (some ⟨g, 0, none⟩), .int .i64 no] wr fun e w' => e = .returned (.tuple #[.int .i64 x, .bool y]) ∧ Pb w w' g a q b ps qs z l ∧ Off (two g a) wr w' := by
  refine (find_any h.r no).mono ?_
  rintro e w' ⟨rfl, h1, h2⟩
  rw [ha.find l no, hz] at h1
  rw [ha.find l no, hx, hy]
  exact ⟨rfl, h.stepR h1 h2, h2⟩
theorem findQ_any {w wr : World} {g a q b : Nat} {ps qs : List Pge} {k l : Nat} (h : Pb w wr g a q b ps qs k l) (hf : ∀ p ∈ qs, ∀ x ∈ p.os, x.Fits) (no : Int) (x : Nat) (y : Bool) (z : Nat) (hx : (findP qs l no).getD 0 = x) (hy : (findP qs l no).isSome = y) (hz : (findP qs l no).getD l = z) :
    Calls Try.prog 10 #[.pointer (some ⟨q, 0, none⟩), .int .i64 no] wr fun e w' => e = .returned (.tuple #[.int .i64 x, .bool y]) ∧ Pb w w' g a q b ps qs k z ∧ Off (two q b) wr w' := by
  refine (qfind_any h.s hf no).mono ?_
  rintro e w' ⟨rfl, h1, h2⟩
  rw [hz] at h1
  rw [hx, hy]
  exact ⟨rfl, h.stepQ h1 h2, h2⟩
/-- The document's page at a place, or an empty one. -/
def pgL (qs : List Pge) (no : Int) : Int := if 0 ≤ no ∧ no < qs.length then ((qs[no.toNat]?).getD Pge.zero).lsn else 0
def pgO (qs : List Pge) (no : Int) : List O := if 0 ≤ no ∧ no < qs.length then ((qs[no.toNat]?).getD Pge.zero).os else []
theorem pageL_any {w wr : World} {g a q b : Nat} {ps qs : List Pge} {l : Nat} (h : Pb w wr g a q b ps qs l l) (ha : Alk ps qs) (no : Int) :
    Calls Try.prog 12 #[.pointer (some ⟨g, 0, none⟩), .int .i64 no] wr fun e w' => ∃ v', e = .returned (.agg #[.int .u64 (pgL qs no), v']) ∧ Olds w' v' (pgO qs no) ∧ Below wr.heap.size wr w' := by
  refine (pageR_any h ha no).mono ?_
  rintro e w' ⟨v', lsn, os, rfl, h1, h2, h3, h4, h5⟩
  unfold pgL pgO
  by_cases hi : 0 ≤ no ∧ no < qs.length
  · obtain ⟨p, hp, e1, e2⟩ := h4 hi
    rw [if_pos hi, if_pos hi, hp]
    subst e1 e2
    exact ⟨v', rfl, h1, h2⟩
  · obtain ⟨e1, e2⟩ := h5 hi
    rw [if_neg hi, if_neg hi]
    subst e1 e2
    exact ⟨v', rfl, h1, h2⟩
theorem pgO_len {w : World} {q b l : Nat} {qs : List Pge} (h : QAt w q b qs l) (no : Int) : (pgO qs no).length ≤ 1000 := by
  unfold pgO
  by_cases hi : 0 ≤ no ∧ no < qs.length
  · rw [if_pos hi]
    obtain ⟨p, hp⟩ : ∃ p, qs[no.toNat]? = some p := ⟨qs[no.toNat]'(by omega), List.getElem?_eq_getElem (by omega)⟩
    rw [hp]
    exact h.len p (List.mem_of_getElem? hp)
  · rw [if_neg hi]; simp
end Go.Proofs.Ytddhjkgefninbaa
