/-
  Plain facts on histories: what they show, told of their transactions alone; circles. Plain facts: the transactions of what was told, as the document gathers them, and as they are gathered in one go. Plain facts on arrays of bytes that go as values: what a block holds, how a whole array is loaded, stored, copied and handed back. Plain facts: a map as a function from what its keys stand for to values; a range over it. Plain facts: the keys of the maps of a history. A slice as a value.
-/
import Derived.ProofKit
import Derived.Test.YtdlllnkcjfpajaaChecked
import Derived.WalkKit
import Derived.OpenShut
import Derived.ShutString
import Derived.Laws.BitsAllLaws
import Derived.Laws.BytesArg
import Derived.WalkSpells
import Derived.Laws.CopyOwn
import Derived.Laws.Rows
import Derived.Deep.RegionLaw
import Derived.Deep.WholeRow
import Derived.ChangeKeysEq
import Derived.Deep.RegionHeld
import Derived.Deep.MidRow
import Derived.Deep.CutBlock
import Derived.Deep.CutRange
import Derived.OwnWalk
import Derived.SizedLaws
import Derived.Deep.Grids
import Derived.Deep.Slices
import Derived.Lib.SmallJoins
import Derived.Carry
import Derived.Laws.AppendOwnNone
import Derived.Maps.AppendAt
import Derived.Maps.RangeWalk
import Derived.Maps.OwnSet
import Derived.Maps.Ext
import Derived.WideKeyElems3
namespace Go.Proofs.Ytdlllnkcjfpajaa
open Relation
set_option linter.unusedVariables false
set_option linter.unusedSimpArgs false
theorem tg_trans {α : Type} {r : α → α → Prop} {a b c : α} (h : TransGen r a b) (k : TransGen r b c) : TransGen r a c := by
  induction k with
  | single h' => exact .tail h h'
  | tail _ h' ih => exact .tail ih h'
theorem least_of {α : Type} (T : α → α → Prop) (ht : ∀ a b c, T a b → T b c → T a c) (hi : ∀ a, ¬ T a a) : ∀ l : List α, l ≠ [] → ∃ m ∈ l, ∀ y ∈ l, ¬ T y m
  | [], h => absurd rfl h
  | [a], _ => ⟨a, by simp, fun y hy => by simp at hy; subst hy; exact hi _⟩
  | a :: b :: r, _ => by
    obtain ⟨m, hm, hl⟩ := least_of T ht hi (b :: r) (by simp)
    by_cases q : T a m
    · refine ⟨a, by simp, fun y hy => ?_⟩
      rcases List.mem_cons.1 hy with rfl | hy
      · exact hi _
      · intro h; exact hl y hy (ht _ _ _ h q)
    · refine ⟨m, by simp [hm], fun y hy => ?_⟩
      rcases List.mem_cons.1 hy with rfl | hy
      · exact q
      · exact hl y hy
theorem circle_of {α : Type} {r : α → α → Prop} (l : List α) (hne : l ≠ []) (h : ∀ x ∈ l, ∃ y ∈ l, r y x) : ∃ x, TransGen r x x := by
  refine Classical.byContradiction fun hno => ?_
  obtain ⟨m, hm, hl⟩ := least_of (TransGen r) (fun a b c => tg_trans) (fun a ha => hno ⟨a, ha⟩) l hne
  obtain ⟨y, hy, hr⟩ := h m hm
  exact hl y hy (.single hr)
theorem no_circle {α : Type} {r : α → α → Prop} (f : α → Nat) (h : ∀ a b, r a b → f a < f b) (a : α) : ¬ TransGen r a a := by
  have : ∀ {a b}, TransGen r a b → f a < f b := by
    intro a b hab
    induction hab with
    | single h' => exact h _ _ h'
    | tail _ h' ih => exact Nat.lt_trans ih (h _ _ h')
  intro q
  exact Nat.lt_irrefl _ (this q)
structure Pt where
  st : Int
  co : Int
  dn : Bool
  rs : List (Int × Int)
  ws : List Int
def Pt.com (p : Pt) : Bool := p.dn && decide (0 < p.ws.length)
def Pt.en (p : Pt) : Int := if p.com then p.co else p.st
def isHF : List Pt → List Int → Bool
  | [], _ => true
  | p :: r, T => if p.com then (if decide (p.co ∈ T) || decide (p.co ≤ p.st) then false else isHF r (p.co :: T)) else isHF r T
structure Pt.Fit (p : Pt) : Prop where
  st : 0 ≤ p.st ∧ p.st ≤ 4294967295
  co : 0 ≤ p.co ∧ p.co ≤ 4294967295
  rs : ∀ v ∈ p.rs, (0 ≤ v.1 ∧ v.1 ≤ 65535) ∧ 0 ≤ v.2 ∧ v.2 ≤ 4294967295
  ws : ∀ x ∈ p.ws, 0 ≤ x ∧ x ≤ 65535
  rl : p.rs.length ≤ 1000
  wl : p.ws.length ≤ 1000
end Go.Proofs.Ytdlllnkcjfpajaa
namespace Go.Proofs.Ytdlllnkcjfpajaa
set_option linter.unusedVariables false
set_option linter.unusedSimpArgs false
structure Tl where
  kind : Int
  txn : Int
  page : Int
  life : Int
  op : Bool
  err : Int
  rtxn : Int
  rts : Int
  l : List Value
def Tl.cnt (t : Tl) : Bool := !t.op && decide (t.err = 0)
def Tl.beg (t : Tl) : Bool := t.cnt && decide (t.kind = 0)
def noteP (p : Pt) (t : Tl) : Pt :=
  if t.kind = 1 then (if t.page ∈ p.ws then p else { p with rs := p.rs ++ [(t.page, t.rts)] })
  else if t.kind = 2 then (if t.page ∈ p.ws then p else { p with ws := p.ws ++ [t.page] })
  else if t.kind = 3 then { p with dn := true, co := if p.ws = [] then p.co else t.rts }
  else p
def startP (b : Tl) : Pt := ⟨b.rts, 0, false, [], []⟩
def stepR (b : Tl) (p : Pt × Bool) (t : Tl) : Pt × Bool :=
  if p.2 = false then p else if t.cnt = false ∨ t.life ≠ b.life then p
  else if t.kind = 0 ∧ t.rtxn = b.rtxn then (p.1, false)
  else if t.kind = 0 ∨ t.txn ≠ b.rtxn then p else (noteP p.1 t, true)
def ofR : List Tl → List Pt
  | [] => []
  | b :: r => if b.beg then (r.foldl (stepR b) (startP b, true)).1 :: ofR r else ofR r
def adv (es : List (Tl × Pt × Bool)) (t : Tl) : List (Tl × Pt × Bool) := es.map (fun e => (e.1, stepR e.1 e.2 t)) ++ (if t.beg then [(t, startP t, true)] else [])
theorem adv_all : ∀ (told : List Tl) (es : List (Tl × Pt × Bool)), (told.foldl adv es).map (fun e => e.2.1) = es.map (fun e => (told.foldl (stepR e.1) e.2).1) ++ ofR told
  | [], es => by simp [ofR]
  | t :: r, es => by
    rw [List.foldl_cons, adv_all r, adv, ofR]
    cases t.beg <;> simp
def AtOk (es : List (Tl × Pt × Bool)) (at_ : Int × Int → Option Nat) : Prop :=
  ∀ nm k, at_ nm = some k ↔ ∃ b p, es[k]? = some (b, p, true) ∧ (b.life, b.rtxn) = nm
theorem AtOk.start : AtOk [] (fun _ => none) := fun nm k => ⟨(fun q => by cases q), fun ⟨b, p, q, _⟩ => by simp at q⟩
theorem get_map {es : List (Tl × Pt × Bool)} {t : Tl} {k : Nat} : (es.map (fun e => (e.1, stepR e.1 e.2 t)))[k]? = (es[k]?).map (fun e => (e.1, stepR e.1 e.2 t)) := List.getElem?_map ..
theorem adv_not {es : List (Tl × Pt × Bool)} {t : Tl} (h : t.cnt = false) : adv es t = es := by
  have : t.beg = false := by simp [Tl.beg, h]
  rw [adv, this]
  have e : es.map (fun e => (e.1, stepR e.1 e.2 t)) = es.map id := List.map_congr_left fun e _ => by
    unfold stepR
    simp [h]
  rw [e]
  simp
theorem adv_beg {es : List (Tl × Pt × Bool)} {at_ : Int × Int → Option Nat} {t : Tl} (h : AtOk es at_) (hb : t.beg = true) :
    (adv es t).map (fun e => e.2.1) = es.map (fun e => e.2.1) ++ [startP t] ∧ AtOk (adv es t) (fun nm => if nm = (t.life, t.rtxn) then some es.length else at_ nm) := by
  have hc : t.cnt = true ∧ t.kind = 0 := by simpa [Tl.beg] using hb
  have hst : ∀ e : Tl × Pt × Bool, stepR e.1 e.2 t = (e.2.1, e.2.2 && !(decide (t.life = e.1.life) && decide (t.rtxn = e.1.rtxn))) := fun e => by
    obtain ⟨b, p, l⟩ := e
    unfold stepR
    simp only [hc.1, hc.2]
    cases l with
    | false => simp
    | true =>
      by_cases h1 : t.life = b.life
      · by_cases h2 : t.rtxn = b.rtxn
        · simp [h1, h2]
        · simp [h1, h2]
      · simp [h1]
  constructor
  · rw [adv, hb]
    simp [hst]
  · intro nm k
    rw [adv, hb]
    simp only [if_true]
    by_cases e : nm = (t.life, t.rtxn)
    · rw [if_pos e]
      constructor
      · intro q
        injection q with q
        subst q
        exact ⟨t, startP t, by simp, e.symm⟩
      · rintro ⟨b, p, q1, q2⟩
        by_cases hk : k < es.length
        · rw [List.getElem?_append_left (by simpa using hk), get_map] at q1
          obtain ⟨x, hx, ex⟩ := Option.map_eq_some_iff.1 q1
          rw [hst] at ex
          simp only [Prod.mk.injEq] at ex
          obtain ⟨rfl, rfl, e3⟩ := ex
          rw [e] at q2
          simp only [Prod.mk.injEq] at q2
          simp [q2.1, q2.2] at e3
        · rw [List.getElem?_append_right (by simpa using hk)] at q1
          have : k - (es.map fun e => (e.1, stepR e.1 e.2 t)).length = 0 := by
            have := (List.getElem?_eq_some_iff.1 q1).1
            simp at this ⊢; omega
          simp at this
          congr 1
          omega
    · rw [if_neg e, h nm k]
      constructor
      · rintro ⟨b, p, q1, q2⟩
        have hk := (List.getElem?_eq_some_iff.1 q1).1
        refine ⟨b, p, ?_, q2⟩
        rw [List.getElem?_append_left (by simpa using hk), get_map, q1]
        simp only [Option.map_some, hst]
        have : ¬ (t.life = b.life ∧ t.rtxn = b.rtxn) := fun q => e (by rw [← q2, q.1, q.2])
        congr 3
        by_cases h1 : t.life = b.life
        · have h2 : t.rtxn ≠ b.rtxn := fun q => this ⟨h1, q⟩
          simp [h2]
        · simp [h1]
      · rintro ⟨b, p, q1, q2⟩
        by_cases hk : k < es.length
        · rw [List.getElem?_append_left (by simpa using hk), get_map] at q1
          obtain ⟨x, hx, ex⟩ := Option.map_eq_some_iff.1 q1
          rw [hst] at ex
          simp only [Prod.mk.injEq] at ex
          obtain ⟨rfl, rfl, e3⟩ := ex
          obtain ⟨b', p', l'⟩ := x
          simp at e3
          exact ⟨b', p', by rw [hx, e3.1], q2⟩
        · rw [List.getElem?_append_right (by simpa using hk)] at q1
          have hz : k - (es.map fun e => (e.1, stepR e.1 e.2 t)).length = 0 := by
            have := (List.getElem?_eq_some_iff.1 q1).1
            simp at this ⊢; omega
          rw [hz] at q1
          simp at q1
          rw [← q1.1] at q2
          exact absurd q2.symm e
theorem adv_call {es : List (Tl × Pt × Bool)} {at_ : Int × Int → Option Nat} {t : Tl} (h : AtOk es at_) (hc : t.cnt = true) (hk : t.kind ≠ 0) :
    AtOk (adv es t) at_ ∧ (at_ (t.life, t.txn) = none → (adv es t).map (fun e => e.2.1) = es.map (fun e => e.2.1)) ∧
    ∀ k, at_ (t.life, t.txn) = some k → ∃ p, (es.map fun e => e.2.1)[k]? = some p ∧ (adv es t).map (fun e => e.2.1) = (es.map fun e => e.2.1).set k (noteP p t) := by
  have hb : t.beg = false := by simp [Tl.beg, hk]
  have hst : ∀ e : Tl × Pt × Bool, stepR e.1 e.2 t = if e.2.2 = true ∧ (e.1.life, e.1.rtxn) = (t.life, t.txn) then (noteP e.2.1 t, true) else e.2 := fun e => by
    obtain ⟨b, p, l⟩ := e
    unfold stepR
    cases l with
    | false => simp
    | true =>
      by_cases h1 : t.life = b.life
      · by_cases h2 : t.txn = b.rtxn
        · simp [hc, hk, h1, h2]
        · have h3 : ¬ b.rtxn = t.txn := fun q => h2 q.symm
          simp [hc, hk, h1, h2, h3]
      · have h3 : ¬ b.life = t.life := fun q => h1 q.symm
        simp [h1, h3]
  have hl : ∀ e : Tl × Pt × Bool, (stepR e.1 e.2 t).2 = e.2.2 := fun e => by
    rw [hst]; split
    · rename_i q; exact q.1.symm
    · rfl
  have ha : adv es t = es.map (fun e => (e.1, stepR e.1 e.2 t)) := by rw [adv, hb]; simp
  refine ⟨fun nm k => ?_, fun hn => ?_, fun k hk2 => ?_⟩
  · rw [h nm k, ha, get_map]
    constructor
    · rintro ⟨b, p, q1, q2⟩
      refine ⟨b, (stepR b (p, true) t).1, ?_, q2⟩
      rw [q1]
      have := hl (b, p, true)
      simp only [Option.map_some]
      congr 1
      exact Prod.ext rfl (Prod.ext rfl this)
    · rintro ⟨b, p, q1, q2⟩
      obtain ⟨⟨b', p', l'⟩, hx, ex⟩ := Option.map_eq_some_iff.1 q1
      have e1 : b' = b := congrArg Prod.fst ex
      have e2 : (stepR b' (p', l') t) = (p, true) := congrArg Prod.snd ex
      have := hl (b', p', l')
      rw [e2] at this
      simp at this
      subst this e1
      exact ⟨b', p', hx, q2⟩
  · rw [ha, List.map_map]
    refine List.map_congr_left fun e he => ?_
    obtain ⟨k, hk3, rfl⟩ := List.getElem_of_mem he
    show (stepR _ _ t).1 = _
    rw [hst]
    split
    · rename_i q
      have : at_ (t.life, t.txn) = some k := (h _ k).2 ⟨es[k].1, es[k].2.1, by
        rw [List.getElem?_eq_getElem hk3]
        congr 1
        exact Prod.ext rfl (Prod.ext rfl q.1), q.2⟩
      rw [hn] at this; cases this
    · rfl
  · obtain ⟨b, p, q1, q2⟩ := (h _ k).1 hk2
    refine ⟨p, by rw [List.getElem?_map, q1]; rfl, ?_⟩
    rw [ha, List.map_map]
    apply List.ext_getElem?
    intro j
    have hkl := (List.getElem?_eq_some_iff.1 q1).1
    rw [List.getElem?_map]
    by_cases e : j = k
    · subst e
      rw [q1, List.getElem?_set_self (by simpa using hkl)]
      simp only [Option.map_some, Function.comp]
      have h9 := hst (b, p, true)
      rw [if_pos ⟨rfl, q2⟩] at h9
      exact congrArg some (congrArg Prod.fst h9)
    · rw [List.getElem?_set_ne (fun q => e q.symm), List.getElem?_map]
      cases hj : es[j]? with
      | none => rfl
      | some x =>
        simp only [Option.map_some, Function.comp]
        rw [hst]
        split
        · rename_i q
          have : at_ (t.life, t.txn) = some j := (h _ j).2 ⟨x.1, x.2.1, by rw [hj]; congr 1; exact Prod.ext rfl (Prod.ext rfl q.1), q.2⟩
          rw [hk2] at this
          exact absurd (Option.some.inj this).symm e
        · rfl
end Go.Proofs.Ytdlllnkcjfpajaa
namespace Go.Proofs.Ytdlllnkcjfpajaa
open Go.ChangeShapes Go.WideShapes Go.ChangeAt Go.RowKit
set_option linter.unusedVariables false
set_option linter.unusedSimpArgs false
def bs (ys : List Int) : Array Value := (ys.map (Value.int .u8)).toArray
def zs (n : Nat) : List Int := List.replicate n 0
def Row (w : World) (g : Nat) (cs : Array Value) (t : TypeId) : Prop := w.heap[g]? = some (.cells cs t (0, 0))
theorem nz0 {α : Type _} {xs : List α} {i : Nat} (h : i < xs.toArray.size) : xs.toArray[i] = xs[i]'(by simpa using h) := rfl
theorem nz1 {α : Type _} (a : α) (l : List α) (h : 0 < (a :: l).length) : (a :: l)[0] = a := rfl
theorem nz2 {α : Type _} (a : α) (l : List α) (i : Nat) (h : i + 1 < (a :: l).length) : (a :: l)[i + 1] = l[i]'(Nat.lt_of_succ_lt_succ h) := rfl
theorem nz3 {α : Type _} (l : List α) (i : Nat) (a : α) : l.toArray.setIfInBounds i a = (l.set i a).toArray := List.setIfInBounds_toArray l i a
theorem nz4 {α : Type _} {x : α} {xs : List α} {a : α} : (x :: xs).set 0 a = a :: xs := rfl
theorem nz5 {α : Type _} {x : α} {xs : List α} {i : Nat} {a : α} : (x :: xs).set (i + 1) a = x :: xs.set i a := rfl
theorem tkH {P : Program} {ops : Array Oper} {Q : Exit → Act → World → Prop} {md : Region.Mode} {S : World → Prop} {i : Nat} {oi : Oper} {v : Value} {fuel : Nat} {listed : Array Bool} {a : Act} {w : World} (hi : ops[i]? = some oi)
    (hs : (Region.noSelect ops && (Region.free md ops listed i && (Region.ready md ops listed).contains i)) = true) (hQ : ∀ c a w, Q (.panic c) (a.put oi.dst v) w → Q (.panic c) a w) (hy : YieldsIf P ops S oi v a) (hS : S w)
    (h : wpAnyH P md ops Q S fuel (listed.setIfInBounds i true) (a.put oi.dst v) w) : wpAnyH P md ops Q S (fuel + 1) listed a w := by
  rw [Bool.and_eq_true, Bool.and_eq_true] at hs
  exact wpAnyH_take hi hs.1 hs.2.1 hs.2.2 hQ hy hS h
theorem Row.new (w : World) (cs : Array Value) (t : TypeId) : Row (w.alloc (.cells cs t)) w.heap.size cs t := heap_alloc_last w _
theorem Row.alloc {w : World} {g : Nat} {cs : Array Value} {t : TypeId} (h : Row w g cs t) (o : Obj) : Row (w.alloc o) g cs t := by
  unfold Row at h ⊢
  have hl : g < w.heap.size := (Array.getElem?_eq_some_iff.1 h).1
  rw [Below.heap_alloc w o g hl]; exact h
theorem Row.below {B : Nat} {w w' : World} {g : Nat} {cs : Array Value} {t : TypeId} (h : Row w g cs t) (hb : Below B w w') (hl : g < B) : Row w' g cs t := by
  unfold Row at h ⊢; rw [hb.block g hl]; exact h
theorem Row.set {w : World} {g : Nat} {cs : Array Value} {t : TypeId} (h : Row w g cs t) (cs' : Array Value) : Row (w.setRow g cs') g cs' t := setRow_heap w g cs cs' t _ h
theorem Row.lt {w : World} {g : Nat} {cs : Array Value} {t : TypeId} (h : Row w g cs t) : g < w.heap.size := (Array.getElem?_eq_some_iff.1 h).1
section
variable {P : Program}
end
def Bytes (ys : List Int) : Prop := ∀ y ∈ ys, 0 ≤ y ∧ y ≤ 255
theorem row_frozen {w : World} {g : Nat} {cs : Array Value} {t : TypeId} (h : Row w g cs t) (j : Nat) : w.frozen? ⟨g, j, none⟩ = false := frozen_of_row w g j cs t h
section
variable {P : Program}
theorem store_cells {ops : Array Oper} {rest : List Oper} {o : Oper} {a : Act} {w : World} {Q : Exit → Act → World → Prop} (hgd : o.guard = none) (ty : TypeId) (x y : Operand) (ho : o.op = .store ty x y)
    (g : Nat) (cs : Array Value) (hx : a.eval x = .pointer (some ⟨g, 0, none⟩)) (hy : a.eval y = .agg cs)
    (t : TypeId) (old : Array Value) (hg : Row w g old t) (n : Nat) (hi : (P.info? ty).map (·.size) = some n)
    (hold : old.size = n) (hn : cs.size = n) (h1 : cs.all (·.oneCell') = true)
    (h : wpList P ops Q rest (a.put o.dst undef) (w.setRow g cs)) : wpList P ops Q (o :: rest) a w :=
  wpList_store_row hgd ty x y ho g cs hx hy t old hg (by rw [hi, hn]) (by rw [hold, hn]) h1 h
end
def bl (ys : List Bool) : Array Value := (ys.map Value.bool).toArray
def fs : List Bool := List.replicate 64 false
structure Off (F : Nat → Prop) (w w' : World) : Prop where
  os : w'.os = w.os
  tape : w'.tape = w.tape
  output : w'.output = w.output
  size : w.heap.size ≤ w'.heap.size
  block : ∀ k, k < w.heap.size → ¬ F k → w'.heap[k]? = w.heap[k]?
theorem Off.refl (F : Nat → Prop) (w : World) : Off F w w := ⟨rfl, rfl, rfl, Nat.le_refl _, fun _ _ _ => rfl⟩
theorem Off.trans {F F' : Nat → Prop} {a b c : World} (h : Off F a b) (k : Off F' b c) (hF : ∀ j, F' j → F j ∨ a.heap.size ≤ j) : Off F a c :=
  ⟨k.os.trans h.os, k.tape.trans h.tape, k.output.trans h.output, Nat.le_trans h.size k.size, fun i hi hn => (k.block i (Nat.lt_of_lt_of_le hi h.size) (fun q => by
    rcases hF i q with q | q
    · exact hn q
    · omega)).trans (h.block i hi hn)⟩
theorem Off.mono {F F' : Nat → Prop} {a b : World} (h : Off F a b) (hF : ∀ j, F j → F' j ∨ a.heap.size ≤ j) : Off F' a b :=
  ⟨h.os, h.tape, h.output, h.size, fun i hi hn => h.block i hi (fun q => by
    rcases hF i q with q | q
    · exact hn q
    · omega)⟩
theorem Off.of_below {F : Nat → Prop} {a b : World} (h : Below a.heap.size a b) : Off F a b := ⟨h.os, h.tape, h.output, h.size, fun i hi _ => h.block i hi⟩
theorem Off.of_grown {F : Nat → Prop} {a b : World} {row : Option Nat} (h : a.grownBy b row) (hF : ∀ k, row = some k → F k) : Off F a b :=
  ⟨h.os, h.tape, h.output, h.size, fun i hi hn => h.block i hi (fun q => hn (hF i q.symm))⟩
theorem Off.of_setCell {F : Nat → Prop} (w : World) (p : Addr) (v : Value) (hF : F p.block) : Off F w (w.setCell p v) :=
  ⟨rfl, rfl, rfl, by simp [World.setCell], fun k _ hk => Below.heap_setCell _ _ _ _ (fun q => hk (q ▸ hF))⟩
theorem Off.of_setRow {F : Nat → Prop} (w : World) (g : Nat) (cs : Array Value) (hF : F g) : Off F w (w.setRow g cs) :=
  ⟨rfl, rfl, rfl, by simp [World.setRow], fun k _ hk => setRow_other w g k cs (fun q => hk (q ▸ hF))⟩
theorem Off.drew {F : Nat → Prop} {a b : World} (h : Off F a b) : Off F a b.drew := ⟨h.os, h.tape, h.output, h.size, h.block⟩
theorem Off.below {F : Nat → Prop} {a b : World} (h : Off F a b) {B : Nat} (hB : B ≤ a.heap.size) (hF : ∀ k, F k → B ≤ k) : Below B a b :=
  ⟨h.os, h.tape, h.output, h.size, fun k hk => h.block k (by omega) (fun q => by have := hF k q; omega)⟩
theorem Row.off {F : Nat → Prop} {w w' : World} {g : Nat} {cs : Array Value} {t : TypeId} (h : Row w g cs t) (ho : Off F w w') (hg : ¬ F g) : Row w' g cs t := by
  have hl := h.lt
  unfold Row at h ⊢; rw [ho.block g hl hg]; exact h
theorem row_set {w : World} {g : Nat} {cs : Array Value} {t : TypeId} (h : Row w g cs t) (j : Nat) (x : Value) : Row (w.setCell ⟨g, j, none⟩ x) g (cs.setIfInBounds j x) t := by
  rw [setCell_eq_setRow w g j cs t (0, 0) _ h]; exact h.set _
theorem row_at {w : World} {g : Nat} {cs : Array Value} {t : TypeId} (h : Row w g cs t) (j : Nat) (v : Value) (hv : cs[j]? = some v) : w.cell? ⟨g, j, none⟩ = some v := by
  rw [cell_of_row w g j _ _ _ h, hv]
theorem cell_keep {w w' : World} {p : Addr} {u : Value} (h : w.cell? p = some u) (hb : Below w.heap.size w w') : w'.cell? p = some u := by
  rw [← h]
  refine World.cell?_of_block (hb.block _ ?_)
  unfold World.cell? at h
  by_cases q : p.block < w.heap.size
  · exact q
  · rw [Array.getElem?_eq_none (by omega)] at h; cases h
theorem wpList_load_any {P : Program} {ops : Array Oper} {rest : List Oper} {op : Oper} {a : Act} {w : World} {Q : Exit → Act → World → Prop} (hgd : op.guard = none) (ty : TypeId) (x : Operand) (ho : op.op = .load ty x)
    (p : Addr) (hx : a.eval x = .pointer (some p)) (cs : List Value) (d : TypeDesc) (hc : ∀ j v, cs[j]? = some v → w.cell? (p.add j) = some v)
    (hu : P.underlying ty = some d) (hd : d.isRow = true) (hi : (P.info? ty).map (·.size) = some cs.length)
    (h : wpList P ops Q rest (a.put op.dst (.agg cs.toArray)) w) : wpList P ops Q (op :: rest) a w := by
  refine wpList_plain hgd fun K hK => ?_
  have hl : (loadCells p cs.length).run P w = .ok cs.toArray w := run_loadCells_list (P := P) w p cs hc
  have hrun : (loadVar ty p).run P w = .ok (.agg cs.toArray) w := by
    cases hq : P.info? ty with
    | none => simp [hq] at hi
    | some i =>
      have hs : i.size = cs.length := by simpa [hq] using hi
      have hagg : (isAgg ty).run P w = .ok true w := by
        unfold isAgg
        rw [Sem.run_bind, run_underlying hu w]
        cases d <;> simp_all
      simp [loadVar, Sem.run_bind, hagg, sizeOf, typeInfo, hq, hs, hl]
  unfold Oper.wp execOp
  simp only [ho, hx, Instr.loadAt, Instr.sureAddr, Sem.run_bind, Sem.run_pure, Result.andThen_ok, hrun]
  exact hK _ _ h
end Go.Proofs.Ytdlllnkcjfpajaa
namespace Go.Proofs.Ytdlllnkcjfpajaa
open Go.ChangeShapes Go.WideShapes Go.ChangeAt Go.RowKit
set_option linter.unusedVariables false
set_option linter.unusedSimpArgs false
set_option maxRecDepth 20000
structure KE (k : TypeId) (κ : Type) where
  v : κ → Value
  ok : κ → Prop
  l : κ → Lit
  law : Maps.Keyed Try.prog k
  mkk : ∀ {x}, ok x → keyOf Try.prog k (v x) = some (l x)
  inv : ∀ {key kl}, keyOf Try.prog k key = some kl → ∃ x, ok x ∧ key = v x
  vinj : ∀ {x y}, v x = v y → x = y
section
variable {k : TypeId} {κ : Type} {E : KE k κ}
theorem KE.linj {x y : κ} (hx : E.ok x) (hy : E.ok y) (h : E.l x = E.l y) : x = y :=
  E.vinj (E.law.inj (E.mkk hx) (by rw [h]; exact E.mkk hy))
theorem KE.key {x : κ} (hx : E.ok x) : WideAt.IsKeyLit (E.l x) := E.law.key (E.mkk hx)
theorem KE.same [DecidableEq κ] {x y : κ} (hx : E.ok x) (hy : E.ok y) : (E.l y).sameKey (E.l x) = decide (y = x) := by
  by_cases e : y = x
  · subst e
    rw [WideAt.sameKey_self (E.key hx)]; simp
  · rw [decide_eq_false e]
    exact Maps.sameKey_ne (fun q => e (E.linj hy hx q))
def rawR (v : Value) : Option (DataW Value × List MemPlace) := some (.held v, [])
def KIs (E : KE k κ) (D : DataW Value) (f : κ → Option Value) : Prop :=
  ∀ x, E.ok x → (f x = none → Maps.has D (E.l x) = false) ∧ ∀ v, f x = some v → ∀ z, D.atKey (E.l x) z = .held v
def KMap (E : KE k κ) (w : World) (a n : Nat) (f : κ → Option Value) : Prop := ∃ D, w.ownsMap Try.prog k rawR a n D ∧ KIs E D f
theorem KMap.lt {w : World} {a n : Nat} {f : κ → Option Value} (h : KMap E w a n f) : a < w.heap.size := by
  obtain ⟨D, hD, _⟩ := h; exact hD.lt
theorem KMap.kept {w w' : World} {a n : Nat} {f : κ → Option Value} (h : KMap E w a n f) (e : w'.heap[a]? = w.heap[a]?) : KMap E w' a n f := by
  obtain ⟨D, ⟨es, clock, hb, F, hs, hD⟩, h⟩ := h
  exact ⟨D, ⟨es, clock, e.trans hb, F, hs, hD⟩, h⟩
theorem KMap.off {F : Nat → Prop} {w w' : World} {a n : Nat} {f : κ → Option Value} (h : KMap E w a n f) (ho : Off F w w') (hg : ¬ F a) : KMap E w' a n f := h.kept (ho.block a h.lt hg)
theorem KMap.below {w w' : World} {a n : Nat} {f : κ → Option Value} (h : KMap E w a n f) (ho : Below w.heap.size w w') : KMap E w' a n f := h.kept (ho.block a h.lt)
theorem KMap.is {w : World} {a n : Nat} {f : κ → Option Value} (h : KMap E w a n f) : ∃ es cl, w.heap[a]? = some (.map es cl) := by
  obtain ⟨D, ⟨es, clock, hb, _⟩, _⟩ := h; exact ⟨es, clock, hb⟩
theorem KMap.ne_row {w : World} {a n g : Nat} {f : κ → Option Value} {cs : Array Value} {t : TypeId} (h : KMap E w a n f) (r : Row w g cs t) : a ≠ g := by
  intro q
  obtain ⟨es, cl, hb⟩ := h.is
  unfold Row at r
  rw [q, r] at hb; cases hb
theorem KMap.congr {w : World} {a n : Nat} {f g : κ → Option Value} (h : KMap E w a n f) (e : ∀ x, E.ok x → f x = g x) : KMap E w a n g := by
  obtain ⟨D, hD, hf⟩ := h
  exact ⟨D, hD, fun x hx => by rw [← e x hx]; exact hf x hx⟩
theorem KMap.mono {w : World} {a n m : Nat} {f : κ → Option Value} (h : KMap E w a n f) (hm : n ≤ m) : KMap E w a m f := by
  obtain ⟨D, ⟨es, clock, hb, F, hs, hD⟩, h⟩ := h
  exact ⟨D, ⟨es, clock, hb, F, Nat.le_trans hs hm, hD⟩, h⟩
theorem KMap.made (E : KE k κ) (w : World) : KMap E (w.alloc (.map #[] 0)) w.heap.size 0 (fun _ => none) :=
  ⟨_, World.ownsMap_made w _ _ _, fun x _ => ⟨fun _ => rfl, fun v h => by cases h⟩⟩
theorem KMap.look_ok {t e : TypeId} (ht : Try.prog.underlying t = some (.map k e)) {w : World} {z : Value} (hz : (zeroValue e).run Try.prog w = .ok z w) {a n : Nat} {f : κ → Option Value} (h : KMap E w a n f) {x : κ} (hx : E.ok x) :
    (Instr.lookup t (.map (some a)) (E.v x) true).run Try.prog w = .ok (.tuple #[(f x).getD z, .bool (f x).isSome]) w := by
  obtain ⟨D, hD, h⟩ := h
  obtain ⟨v, ps, hrun, hv⟩ := hD.look_ok E.law ht hz (rfl : rawR z = some (.held z, [])) (E.mkk hx)
  have e0 := (Option.some.inj hv)
  rw [hrun]
  cases hf : f x with
  | none =>
    have hn := (h x hx).1 hf
    rw [Maps.atKey_of_not_has hn] at e0
    rw [hn]
    cases e0; rfl
  | some y =>
    have h2 := (h x hx).2 y hf
    rw [h2] at e0
    rw [Maps.has_true_of_atKey h2]
    cases e0; rfl
theorem KMap.look {t e : TypeId} (ht : Try.prog.underlying t = some (.map k e)) {w : World} {z : Value} (hz : (zeroValue e).run Try.prog w = .ok z w) {a n : Nat} {f : κ → Option Value} (h : KMap E w a n f) {x : κ} (hx : E.ok x) :
    (Instr.lookup t (.map (some a)) (E.v x) false).run Try.prog w = .ok ((f x).getD z) w := by
  obtain ⟨D, hD, h⟩ := h
  obtain ⟨v, ps, hrun, hv⟩ := hD.lookup E.law ht hz (rfl : rawR z = some (.held z, [])) (E.mkk hx)
  have e0 := (Option.some.inj hv)
  rw [hrun]
  cases hf : f x with
  | none =>
    have hn := (h x hx).1 hf
    rw [Maps.atKey_of_not_has hn] at e0
    cases e0; rfl
  | some y =>
    rw [(h x hx).2 y hf] at e0
    cases e0; rfl
def kput [DecidableEq κ] (f : κ → Option Value) (x : κ) (v : Value) : κ → Option Value := fun y => if y = x then some v else f y
theorem KMap.store [DecidableEq κ] {t e : TypeId} (ht : Try.prog.underlying t = some (.map k e)) {w : World} {a n : Nat} {f : κ → Option Value} (h : KMap E w a n f) (hn : n < maxLen) {x : κ} (hx : E.ok x) (v : Value) :
    ∃ w', (Instr.mapUpdate t (.map (some a)) (E.v x) v).run Try.prog w = .ok () w' ∧ KMap E w' a (n + 1) (kput f x v) ∧ w.grownBy w' (some a) ∧ w'.heap.size = w.heap.size := by
  obtain ⟨D, hD, h⟩ := h
  obtain ⟨w', hrun, ho, ht'⟩ := hD.store E.law ht hn (E.mkk hx) (rfl : rawR v = some (.held v, []))
  refine ⟨w', hrun, ⟨_, ho, fun y hy => ?_⟩, ht'.grown, ?_⟩
  · unfold kput
    by_cases e : y = x
    · subst e
      rw [if_pos rfl]
      exact ⟨fun q => (by cases q), fun u q => (by cases q; exact fun z => Maps.atKey_put_same hD.isMap (E.key hx) _ z)⟩
    · rw [if_neg e]
      have hne : E.l y ≠ E.l x := fun q => e (E.linj hy hx q)
      refine ⟨fun q => ?_, fun u q z => ?_⟩
      · rw [Maps.has_put_other hne]; exact (h y hy).1 q
      · rw [Maps.atKey_put_other hne]; exact (h y hy).2 u q z
  · obtain ⟨_, _, _, _, _, rfl⟩ := ht'
    simp [ChangeMaps.setBlock]
def KRng (E : KE k κ) (w : World) (a r n : Nat) (f : κ → Option Value) (left : κ → Bool) (cnt : Nat) : Prop :=
  ∃ D lf, w.ranges Try.prog k rawR a r n D lf cnt ∧ KIs E D f ∧ ∀ x, E.ok x → lf (E.l x) = left x
theorem KRng.map {w : World} {a r n : Nat} {f : κ → Option Value} {left : κ → Bool} {cnt : Nat} (h : KRng E w a r n f left cnt) : KMap E w a n f := by
  obtain ⟨D, lf, hr, hf, _⟩ := h; exact ⟨D, hr.owns, hf⟩
theorem KRng.left_eq {w : World} {a r n : Nat} {f : κ → Option Value} {left : κ → Bool} {cnt : Nat} (h : KRng E w a r n f left cnt) : w.rangeLeft a r = cnt := by
  obtain ⟨D, lf, hr, hf, _⟩ := h; exact hr.left_eq
theorem KRng.lt {w : World} {a r n : Nat} {f : κ → Option Value} {left : κ → Bool} {cnt : Nat} (h : KRng E w a r n f left cnt) : r < w.heap.size := by
  obtain ⟨D, lf, hr, hf, _⟩ := h; exact hr.lt
theorem KRng.kept {w w' : World} {a r n : Nat} {f : κ → Option Value} {left : κ → Bool} {cnt : Nat} (h : KRng E w a r n f left cnt) (e : w'.heap[a]? = w.heap[a]?) (e' : w'.heap[r]? = w.heap[r]?) : KRng E w' a r n f left cnt := by
  obtain ⟨D, lf, ⟨es, clock, since, seen, c0, hb, F, hs, hD, hr, rest⟩, hf, hl⟩ := h
  exact ⟨D, lf, ⟨es, clock, since, seen, c0, e.trans hb, F, hs, hD, e'.trans hr, rest⟩, hf, hl⟩
theorem KRng.off {F : Nat → Prop} {w w' : World} {a r n : Nat} {f : κ → Option Value} {left : κ → Bool} {cnt : Nat} (h : KRng E w a r n f left cnt) (ho : Off F w w') (ha : ¬ F a) (hr : ¬ F r) : KRng E w' a r n f left cnt :=
  h.kept (ho.block a h.map.lt ha) (ho.block r h.lt hr)
theorem KRng.range_is {w : World} {a r n : Nat} {f : κ → Option Value} {left : κ → Bool} {cnt : Nat} (h : KRng E w a r n f left cnt) : ∃ o, w.heap[r]? = some o ∧ (∀ cs t x, o = .cells cs t x → False) ∧ ∀ es c, o = .map es c → False := by
  obtain ⟨D, lf, ⟨es, clock, since, seen, c0, hb, F, hs, hD, hr, rest⟩, hf, hl⟩ := h
  exact ⟨_, hr, (fun _ _ _ q => by cases q), (fun _ _ q => by cases q)⟩
theorem KMap.range {t e : TypeId} (ht : Try.prog.underlying t = some (.map k e)) {w : World} {a n : Nat} {f : κ → Option Value} (h : KMap E w a n f) :
    ∃ w' cnt, (Instr.range t (.map (some a))).run Try.prog w = .ok (.pointer (some ⟨w.heap.size, 0, none⟩)) w' ∧ KRng E w' a w.heap.size n f (fun x => (f x).isSome) cnt ∧ cnt ≤ n ∧ w.grownBy w' none ∧ w'.heap.size = w.heap.size + 1 := by
  obtain ⟨D, hD, hf⟩ := h
  obtain ⟨w', hrun, hr, hg, hs⟩ := hD.range E.law ht
  refine ⟨w', _, hrun, ⟨D, _, hr, hf, fun x hx => ?_⟩, hD.size_le, hg, hs⟩
  show _ = (f x).isSome
  cases e : f x with
  | none => rw [(hf x hx).1 e]; rfl
  | some xs => rw [Maps.has_true_of_atKey ((hf x hx).2 xs e)]; rfl
theorem KRng.next [DecidableEq κ] {w : World} {a r n : Nat} {f : κ → Option Value} {left : κ → Bool} {cnt : Nat} (h : KRng E w a r n f left cnt) :
    (cnt = 0 ∧ (∀ x, E.ok x → left x = false) ∧ ∀ ty, (Instr.next (.pointer (some ⟨r, 0, none⟩)) false ty).run Try.prog w = .ok (.tuple #[.bool false]) w) ∨
    ∃ x v w' cnt', E.ok x ∧ left x = true ∧ f x = some v ∧ (∀ ty, (Instr.next (.pointer (some ⟨r, 0, none⟩)) false ty).run Try.prog w = .ok (.tuple #[.bool true, E.v x, v]) w') ∧
      KRng E w' a r n f (fun y => left y && !decide (y = x)) cnt' ∧ cnt' < cnt ∧ w.grownBy w' (some r) ∧ w'.heap.size = w.heap.size ∧ (Instr.entry (.pointer (some ⟨r, 0, none⟩))).run Try.prog w' = .ok (.tuple #[E.v x, v]) w' := by
  obtain ⟨D, lf, hr, hf, hl⟩ := h
  rcases hr.next E.law 0 with ⟨h0, h1, _⟩ | ⟨key, v, k0, y, w', cnt', hkey, hlk, hv, hat, hrun, hrg, hlt, hgr, hsz, hen⟩
  · refine Or.inl ⟨h0, fun x hx => by rw [← hl x hx]; exact h1 _, fun ty => ?_⟩
    rcases hr.next E.law ty with ⟨_, _, hrun⟩ | ⟨_, _, _, _, _, cnt', _, _, _, _, _, _, hlt, _⟩
    · exact hrun
    · omega
  · have hrun' : ∀ ty, (Instr.next (.pointer (some ⟨r, 0, none⟩)) false ty).run Try.prog w = .ok (.tuple #[.bool true, key, v]) w' := fun ty => hrun
    obtain ⟨x, hx, rfl⟩ := E.inv hkey
    obtain rfl : k0 = E.l x := by have := E.mkk hx; rw [hkey] at this; exact Option.some.inj this
    obtain rfl := Option.some.inj hv
    refine Or.inr ⟨x, v, w', cnt', hx, by rw [← hl x hx]; exact hlk, ?_, fun ty => hrun' ty, ⟨D, _, hrg, hf, fun x' hx' => ?_⟩, hlt, hgr, hsz, hen⟩
    · cases e : f x with
      | none =>
        have := (hf x hx).1 e
        rw [Maps.has_true_of_atKey hat] at this; cases this
      | some u =>
        have := (hf x hx).2 u e .nil
        rw [hat] at this
        cases this; rfl
    · rw [hl x' hx', KE.same hx hx']
end
theorem laidD : laidOutB Try.prog = true := by kernel_rfl
def keI (k : TypeId) (q : IntKind) (h : Try.prog.underlying k = some (.int q)) : KE k Int where
  v := .int q
  ok x := (Lit.int q x).wf = true
  l := .int q
  law := Maps.int_keyed h
  mkk hx := Maps.keyOf_int_mk h hx
  inv hk := by obtain ⟨x, rfl, _, hw⟩ := Maps.keyOf_int_inv h hk; exact ⟨x, hw, rfl⟩
  vinj e := by injection e
def E35 : KE 35 Int := keI 35 .u32 Try.underlying35
def E44 : KE 44 Int := keI 44 .u16 Try.underlying44
def E3 : KE 3 Int := keI 3 .i64 Try.underlying3
theorem cells3 : Try.prog.cellsOf 3 = 1 := by kernel_rfl
theorem cells44 : Try.prog.cellsOf 44 = 1 := by kernel_rfl
theorem cells35 : Try.prog.cellsOf 35 = 1 := by kernel_rfl
theorem types_some : 0 < Try.prog.types.size := by decide +kernel
theorem types_pos : ∃ m, Try.prog.types.size = m + 1 := ⟨Try.prog.types.size - 1, by have := types_some; omega⟩
theorem lits44 (m : Nat) {k : Int} (hk : (Lit.int .u16 k).wf = true) : Try.prog.keyLits (m + 1) 44 [.int .u16 k] = some [.int .u16 k] := by
  unfold Program.keyLits
  rw [Try.underlying44]
  simp only [hk, and_self, if_true]
theorem lits44_inv (m : Nat) {x : Value} {ls : List Lit} (h : Try.prog.keyLits (m + 1) 44 [x] = some ls) : ∃ k, x = .int .u16 k ∧ (Lit.int .u16 k).wf = true := by
  unfold Program.keyLits at h
  rw [Try.underlying44] at h
  cases x with
  | int q n =>
    by_cases hx : q = .u16 ∧ (Lit.int .u16 n).wf = true
    · obtain ⟨rfl, hx⟩ := hx; exact ⟨n, rfl, hx⟩
    · simp only [hx, if_false] at h; cases h
  | _ => cases h
theorem lits35 (m : Nat) {k : Int} (hk : (Lit.int .u32 k).wf = true) : Try.prog.keyLits (m + 1) 35 [.int .u32 k] = some [.int .u32 k] := by
  unfold Program.keyLits
  rw [Try.underlying35]
  simp only [hk, and_self, if_true]
theorem lits35_inv (m : Nat) {x : Value} {ls : List Lit} (h : Try.prog.keyLits (m + 1) 35 [x] = some ls) : ∃ k, x = .int .u32 k ∧ (Lit.int .u32 k).wf = true := by
  unfold Program.keyLits at h
  rw [Try.underlying35] at h
  cases x with
  | int q n =>
    by_cases hx : q = .u32 ∧ (Lit.int .u32 n).wf = true
    · obtain ⟨rfl, hx⟩ := hx; exact ⟨n, rfl, hx⟩
    · simp only [hx, if_false] at h; cases h
  | _ => cases h
theorem lits3 (m : Nat) {k : Int} (hk : (Lit.int .i64 k).wf = true) : Try.prog.keyLits (m + 1) 3 [.int .i64 k] = some [.int .i64 k] := by
  unfold Program.keyLits
  rw [Try.underlying3]
  simp only [hk, and_self, if_true]
theorem lits3_inv (m : Nat) {x : Value} {ls : List Lit} (h : Try.prog.keyLits (m + 1) 3 [x] = some ls) : ∃ k, x = .int .i64 k ∧ (Lit.int .i64 k).wf = true := by
  unfold Program.keyLits at h
  rw [Try.underlying3] at h
  cases x with
  | int q n =>
    by_cases hx : q = .i64 ∧ (Lit.int .i64 n).wf = true
    · obtain ⟨rfl, hx⟩ := hx; exact ⟨n, rfl, hx⟩
    · simp only [hx, if_false] at h; cases h
  | _ => cases h
theorem law46 : Maps.Keyed Try.prog 46 := Maps.Keyed.of_law (deep_law_laid (P := Try.prog) laidD (m := 5) (by decide) (k := 46) (by decide +kernel) (by kernel_rfl) (by kernel_rfl))
theorem keyType46 : Try.prog.keyType 46 = true := by kernel_rfl
theorem cells46 : Try.prog.cellsOf 46 = 2 := by kernel_rfl
def seenv (p : Int × Int) : Value := .agg #[.int .u16 p.1, .int .u32 p.2]
def seenl (p : Int × Int) : Lit := .string (keyBytes [.int .u16 p.1, .int .u32 p.2])
def seenok (p : Int × Int) : Prop := (Lit.int .u16 p.1).wf = true ∧ (Lit.int .u32 p.2).wf = true
theorem lits46' (m : Nat) (x y : Value) (A B : Option (List Lit)) (hA : Try.prog.keyLits (m + 1) 44 [x] = A) (hB : Try.prog.keyLits (m + 1) 35 [y] = B) : Try.prog.keyLits (m + 2) 46 [x, y] = (A.bind fun a => B.bind fun b => some (a ++ b)) := by
  unfold Program.keyLits
  rw [Try.underlying46]
  have hall : (#[({ name := "Page", type := 44, offset := 0, embedded := false, tag := "", pkgPath := "", byteOffset := 0 } : Field), ({ name := "Ts", type := 35, offset := 1, embedded := false, tag := "", pkgPath := "", byteOffset := 4 } : Field)].all (·.name != "_")) = true := by decide +kernel
  simp only [cells46, hall, List.length_cons, List.length_nil, and_self, if_true]
  simp only [List.mapM_cons, List.mapM_nil, cells44, cells35, List.drop_zero, List.drop_succ_cons, List.take_succ_cons, List.take_zero]
  rw [hA, hB]
  clear hA hB
  cases A with
  | none => rfl
  | some a =>
    cases B with
    | none => rfl
    | some b => simp
theorem lits46 (m : Nat) (x y : Value) : Try.prog.keyLits (m + 2) 46 [x, y] = ((Try.prog.keyLits (m + 1) 44 [x]).bind fun a => (Try.prog.keyLits (m + 1) 35 [y]).bind fun b => some (a ++ b)) := lits46' m x y _ _ rfl rfl
theorem seen_mk {p : Int × Int} (h : seenok p) : keyOf Try.prog 46 (seenv p) = some (seenl p) := by
  obtain ⟨m, hm⟩ := types_pos
  obtain ⟨b, s⟩ := p
  obtain ⟨hb, hs⟩ := h
  have hf : (seenv (b, s)).formed Try.prog 46 = true := by
    unfold Value.formed
    rw [Try.underlying46]
    simp only [seenv, cells46]
    rfl
  unfold keyOf
  rw [Try.underlying46]
  simp only [keyType46, hf, Bool.and_self, if_true]
  rw [hm]
  show (Try.prog.keyLits (m + 1 + 1) 46 [.int .u16 b, .int .u32 s]).map _ = _
  rw [lits46, lits44 m hb, lits35 m hs]
  rfl
theorem seen_inv {v : Value} {l : Lit} (h : keyOf Try.prog 46 v = some l) : ∃ p, seenok p ∧ v = seenv p := by
  obtain ⟨m, hm⟩ := types_pos
  unfold keyOf at h
  rw [Try.underlying46] at h
  by_cases hf : v.formed Try.prog 46 = true
  · simp only [keyType46, hf, Bool.and_self, if_true] at h
    rw [hm] at h
    unfold Value.formed at hf
    rw [Try.underlying46] at hf
    cases v with
    | agg cs =>
      obtain ⟨cs⟩ := cs
      simp only [cells46] at hf
      have hc : cs.length = 2 := by simpa using hf
      match cs, hc with
      | [x, y], _ =>
        rw [show (Value.agg ⟨[x, y]⟩).cells.toList = [x, y] from rfl, lits46] at h
        cases hx : Try.prog.keyLits (m + 1) 44 [x] with
        | none => rw [hx] at h; cases h
        | some a =>
          cases hy : Try.prog.keyLits (m + 1) 35 [y] with
          | none => rw [hx, hy] at h; cases h
          | some b =>
            obtain ⟨n, rfl, hn⟩ := lits44_inv m hx
            obtain ⟨n', rfl, hn'⟩ := lits35_inv m hy
            exact ⟨(n, n'), ⟨hn, hn'⟩, rfl⟩
    | _ => cases hf
  · simp only [keyType46, hf, Bool.and_false, Bool.false_eq_true, if_false] at h; cases h
def E46 : KE 46 (Int × Int) where
  v := seenv
  ok := seenok
  l := seenl
  law := law46
  mkk := seen_mk
  inv := seen_inv
  vinj {x y} e := by
    obtain ⟨x1, x2⟩ := x
    obtain ⟨y1, y2⟩ := y
    simp [seenv] at e
    rw [e.1, e.2]
theorem law105 : Maps.Keyed Try.prog 105 := Maps.Keyed.of_law (deep_law_laid (P := Try.prog) laidD (m := 5) (by decide) (k := 105) (by decide +kernel) (by kernel_rfl) (by kernel_rfl))
theorem keyType105 : Try.prog.keyType 105 = true := by kernel_rfl
theorem cells105 : Try.prog.cellsOf 105 = 2 := by kernel_rfl
def stepv (p : Int × Int) : Value := .agg #[.int .i64 p.1, .int .i64 p.2]
def stepl (p : Int × Int) : Lit := .string (keyBytes [.int .i64 p.1, .int .i64 p.2])
def stepok (p : Int × Int) : Prop := (Lit.int .i64 p.1).wf = true ∧ (Lit.int .i64 p.2).wf = true
theorem lits105' (m : Nat) (x y : Value) (A B : Option (List Lit)) (hA : Try.prog.keyLits (m + 1) 3 [x] = A) (hB : Try.prog.keyLits (m + 1) 3 [y] = B) : Try.prog.keyLits (m + 2) 105 [x, y] = (A.bind fun a => B.bind fun b => some (a ++ b)) := by
  unfold Program.keyLits
  rw [Try.underlying105]
  have hr : List.range 2 = [0, 1] := rfl
  simp only [cells105, hr, Nat.zero_mul, Nat.one_mul, Nat.mul_one, Nat.zero_add, List.length_cons, List.length_nil, and_self, if_true]
  simp only [List.mapM_cons, List.mapM_nil, hr, Nat.zero_mul, Nat.one_mul, Nat.mul_one, Nat.zero_add, cells3, List.drop_zero, List.drop_succ_cons, List.take_succ_cons, List.take_zero]
  rw [hA, hB]
  clear hA hB
  cases A with
  | none => rfl
  | some a =>
    cases B with
    | none => rfl
    | some b => simp
theorem lits105 (m : Nat) (x y : Value) : Try.prog.keyLits (m + 2) 105 [x, y] = ((Try.prog.keyLits (m + 1) 3 [x]).bind fun a => (Try.prog.keyLits (m + 1) 3 [y]).bind fun b => some (a ++ b)) := lits105' m x y _ _ rfl rfl
theorem step_mk {p : Int × Int} (h : stepok p) : keyOf Try.prog 105 (stepv p) = some (stepl p) := by
  obtain ⟨m, hm⟩ := types_pos
  obtain ⟨b, s⟩ := p
  obtain ⟨hb, hs⟩ := h
  have hf : (stepv (b, s)).formed Try.prog 105 = true := by
    unfold Value.formed
    rw [Try.underlying105]
    simp only [stepv, cells105]
    rfl
  unfold keyOf
  rw [Try.underlying105]
  simp only [keyType105, hf, Bool.and_self, if_true]
  rw [hm]
  show (Try.prog.keyLits (m + 1 + 1) 105 [.int .i64 b, .int .i64 s]).map _ = _
  rw [lits105, lits3 m hb, lits3 m hs]
  rfl
theorem step_inv {v : Value} {l : Lit} (h : keyOf Try.prog 105 v = some l) : ∃ p, stepok p ∧ v = stepv p := by
  obtain ⟨m, hm⟩ := types_pos
  unfold keyOf at h
  rw [Try.underlying105] at h
  by_cases hf : v.formed Try.prog 105 = true
  · simp only [keyType105, hf, Bool.and_self, if_true] at h
    rw [hm] at h
    unfold Value.formed at hf
    rw [Try.underlying105] at hf
    cases v with
    | agg cs =>
      obtain ⟨cs⟩ := cs
      simp only [cells105] at hf
      have hc : cs.length = 2 := by simpa using hf
      match cs, hc with
      | [x, y], _ =>
        rw [show (Value.agg ⟨[x, y]⟩).cells.toList = [x, y] from rfl, lits105] at h
        cases hx : Try.prog.keyLits (m + 1) 3 [x] with
        | none => rw [hx] at h; cases h
        | some a =>
          cases hy : Try.prog.keyLits (m + 1) 3 [y] with
          | none => rw [hx, hy] at h; cases h
          | some b =>
            obtain ⟨n, rfl, hn⟩ := lits3_inv m hx
            obtain ⟨n', rfl, hn'⟩ := lits3_inv m hy
            exact ⟨(n, n'), ⟨hn, hn'⟩, rfl⟩
    | _ => cases hf
  · simp only [keyType105, hf, Bool.and_false, Bool.false_eq_true, if_false] at h; cases h
def E105 : KE 105 (Int × Int) where
  v := stepv
  ok := stepok
  l := stepl
  law := law105
  mkk := step_mk
  inv := step_inv
  vinj {x y} e := by
    obtain ⟨x1, x2⟩ := x
    obtain ⟨y1, y2⟩ := y
    simp [stepv] at e
    rw [e.1, e.2]
theorem zero90 (w : World) : (zeroValue 90).run Try.prog w = .ok (.agg #[]) w := by kernel_rfl
theorem zero3 (w : World) : (zeroValue 3).run Try.prog w = .ok (.int .i64 0) w := by kernel_rfl
theorem zero124 (w : World) : (zeroValue 124).run Try.prog w = .ok (.slice none 0 0) w := by kernel_rfl
theorem zero103 (w : World) : (zeroValue 103).run Try.prog w = .ok (.slice none 0 0) w := by kernel_rfl
structure Sl where
  a : Option Addr
  n : Nat
  c : Nat
def Sl.v (s : Sl) : Value := .slice s.a s.n s.c
end Go.Proofs.Ytdlllnkcjfpajaa
