/-
  A set of written pages as the document tells it, and as it lies in memory: a map whose elements are pages, as they came in and as they are.
-/
import Derived.Test.YtmnbfcmamhinbabSrt
import Derived.Maps.RangeWalk
import Derived.Maps.OwnSet
import Derived.Maps.Ext
namespace Go.Proofs.Ytmnbfcmamhinbab.Ws
open Go.ChangeShapes Go.WideShapes Go.ChangeAt Go.RowKit
open Go.Deep Go.Maps
set_option linter.unusedVariables false
set_option linter.unusedSimpArgs false

theorem lawK : Keyed Try.prog 40 := int_keyed Try.underlying40
/-- A written page (what it was, and what it is), read off a value. -/
def byteOf? : Value → Option Int
  | .int .u8 x => if 0 ≤ x ∧ x ≤ 255 then some x else none
  | _ => none
def wrOf (v : Value) : Option (List Int) :=
  match v with
  | .agg cs => if cs.size = 128 then cs.toList.mapM byteOf? else none
  | _ => none
def wrR (v : Value) : Option (DataW (List Int) × List MemPlace) := (wrOf v).map fun xs => (.held xs, [])
/-- A written page: twice 64 bytes. -/
def Wr (xs : List Int) : Prop := xs.length = 128 ∧ Bytes xs
theorem bytes_mapM : ∀ (xs : List Int), Bytes xs → (xs.map (Value.int .u8)).mapM byteOf? = some xs
  | [], _ => rfl
  | x :: r, h => by
    have hx := h x (by simp)
    have ih := bytes_mapM r (fun y hy => h y (by simp [hy]))
    rw [List.map_cons, List.mapM_cons, ih]
    simp [byteOf?, hx.1, hx.2]
theorem mapM_bytes : ∀ (cs : List Value) (xs : List Int), cs.mapM byteOf? = some xs → cs = xs.map (Value.int .u8) ∧ Bytes xs
  | [], xs, h => by simp at h; subst h; exact ⟨rfl, fun y hy => nomatch hy⟩
  | c :: r, xs, h => by
    rw [List.mapM_cons] at h
    cases hc : byteOf? c with
    | none => simp [hc] at h
    | some x =>
      cases hr : r.mapM byteOf? with
      | none => simp [hc, hr] at h
      | some ys =>
        simp [hc, hr] at h
        subst h
        obtain ⟨e, hb⟩ := mapM_bytes r ys hr
        have hx : c = .int .u8 x ∧ 0 ≤ x ∧ x ≤ 255 := by
          unfold byteOf? at hc
          split at hc
          · split at hc
            · rename_i h1
              cases hc; exact ⟨rfl, h1⟩
            · cases hc
          · cases hc
        refine ⟨by rw [hx.1, e]; rfl, fun y hy => ?_⟩
        rcases List.mem_cons.1 hy with rfl | hy
        · exact hx.2
        · exact hb y hy
theorem wrR_mk {xs : List Int} (h : Wr xs) : wrR (.agg (bs xs)) = some (.held xs, []) := by
  have : wrOf (.agg (bs xs)) = some xs := by
    unfold wrOf
    simp only [bs_size, h.1]
    exact bytes_mapM xs h.2
  unfold wrR; rw [this]; rfl
theorem wrR_inv {v : Value} {y : DataW (List Int) × List MemPlace} (h : wrR v = some y) : ∃ xs, Wr xs ∧ v = .agg (bs xs) ∧ y = (.held xs, []) := by
  unfold wrR at h
  cases hs : wrOf v with
  | none => simp [hs] at h
  | some xs =>
    simp [hs] at h
    unfold wrOf at hs
    split at hs
    · split at hs
      · rename_i cs hc
        obtain ⟨e, hb⟩ := mapM_bytes _ _ hs
        refine ⟨xs, ⟨?_, hb⟩, ?_, h.symm⟩
        · have := congrArg List.length e; simp at this; omega
        · unfold bs; rw [← e]
      · cases hs
    · cases hs


/-- The written pages, each with its number, as the map that holds them is read. -/
def lits (L : List (Int × List Int)) : List (Lit × DataW (List Int)) := L.map fun p => (.int .u16 p.1, .held p.2)
def setD (L : List (Int × List Int)) : DataW (List Int) := .map (lits L)
theorem setD_size (L : List (Int × List Int)) : Maps.size (setD L) = L.length := by simp [setD, lits, Maps.size]
theorem same_u16 (a b : Int) : (Lit.int .u16 a).sameKey (.int .u16 b) = decide (a = b) := by simp [Lit.sameKey]
def hasP (L : List (Int × List Int)) (k : Int) : Bool := L.any fun p => decide (p.1 = k)
/-- A page as it stands in the set; noughts where it doesn't. -/
def atP (L : List (Int × List Int)) (k : Int) : List Int := match L.find? fun p => decide (p.1 = k) with | some p => p.2 | none => zs 128
theorem setD_has (L : List (Int × List Int)) (k : Int) : Maps.has (setD L) (.int .u16 k) = hasP L k := by
  simp only [setD, lits, Maps.has, hasP, List.any_map]
  congr 1
  funext p; exact same_u16 _ _
theorem setD_at (L : List (Int × List Int)) (k : Int) : (setD L).atKey (.int .u16 k) (.held (zs 128)) = .held (atP L k) := by
  unfold atP setD lits DataW.atKey
  simp only
  rw [List.find?_map]
  have e : ((fun p : Lit × DataW (List Int) => p.1.sameKey (.int .u16 k)) ∘ fun p : Int × List Int => ((.int .u16 p.1, .held p.2) : Lit × DataW (List Int))) = fun p => decide (p.1 = k) := by
    funext p; exact same_u16 _ _
  rw [e]
  cases L.find? fun p => decide (p.1 = k) <;> rfl
/-- One is put in, in the order of the numbers. -/
def insP (x : Int × List Int) : List (Int × List Int) → List (Int × List Int)
  | [] => [x]
  | y :: r => if x.1 < y.1 then x :: y :: r else y :: insP x r
def putP (L : List (Int × List Int)) (k : Int) (ys : List Int) : List (Int × List Int) := insP (k, ys) (L.filter fun p => !decide (p.1 = k))
theorem insert_lits (x : Int × List Int) (L : List (Int × List Int)) : DataW.insert (.int .u16 x.1, .held x.2) (lits L) = lits (insP x L) := by
  induction L with
  | nil => rfl
  | cons y r ih =>
    have e : (Lit.int .u16 x.1).before (.int .u16 y.1) = decide (x.1 < y.1) := by simp [Lit.before]
    show (if (Lit.int .u16 x.1).before (.int .u16 y.1) = true then _ else (Lit.int .u16 y.1, DataW.held y.2) :: DataW.insert _ (lits r)) = _
    rw [e, ih]
    show _ = lits (if x.1 < y.1 then x :: y :: r else y :: insP x r)
    by_cases h : x.1 < y.1
    · simp [h, lits]
    · simp [h, lits]
theorem setD_put (L : List (Int × List Int)) (k : Int) (ys : List Int) : (setD L).put (.int .u16 k) (.held ys) = setD (putP L k ys) := by
  show DataW.map (DataW.insert _ ((lits L).filter fun p => !p.1.sameKey (.int .u16 k))) = _
  have e : (lits L).filter (fun p => !p.1.sameKey (.int .u16 k)) = lits (L.filter fun p => !decide (p.1 = k)) := by
    unfold lits
    rw [List.filter_map]
    congr 1
    congr 1
    funext p
    show (!_) = _
    rw [same_u16]
  rw [e]
  have := insert_lits (k, ys) (L.filter fun p => !decide (p.1 = k))
  rw [this]
  rfl
theorem insP_mem (x : Int × List Int) (L : List (Int × List Int)) (p : Int × List Int) : p ∈ insP x L ↔ p = x ∨ p ∈ L := by
  induction L with
  | nil => simp [insP]
  | cons y r ih =>
    unfold insP
    split
    · simp
    · simp only [List.mem_cons, ih]
      constructor
      · rintro (h | h | h)
        · exact Or.inr (Or.inl h)
        · exact Or.inl h
        · exact Or.inr (Or.inr h)
      · rintro (h | h | h)
        · exact Or.inr (Or.inl h)
        · exact Or.inl h
        · exact Or.inr (Or.inr h)
theorem insP_length (x : Int × List Int) (L : List (Int × List Int)) : (insP x L).length = L.length + 1 := by
  induction L with
  | nil => rfl
  | cons y r ih =>
    unfold insP
    split
    · rfl
    · simp [ih]
theorem insP_rising (x : Int × List Int) (L : List (Int × List Int)) (h : L.Pairwise fun p q => p.1 < q.1) (hx : ∀ p ∈ L, ¬ p.1 = x.1) : (insP x L).Pairwise fun p q => p.1 < q.1 := by
  induction L with
  | nil => simp [insP]
  | cons y r ih =>
    obtain ⟨h1, h2⟩ := List.pairwise_cons.1 h
    unfold insP
    split
    · rename_i hlt
      refine List.pairwise_cons.2 ⟨fun q hq => ?_, h⟩
      rcases List.mem_cons.1 hq with rfl | hq
      · exact hlt
      · have := h1 q hq; omega
    · rename_i hlt
      refine List.pairwise_cons.2 ⟨fun q hq => ?_, ih h2 (fun p hp => hx p (by simp [hp]))⟩
      rcases (insP_mem x r q).1 hq with rfl | hq
      · have := hx y (by simp); omega
      · exact h1 q hq
theorem putP_mem {L : List (Int × List Int)} {k : Int} {ys : List Int} {p : Int × List Int} : p ∈ putP L k ys ↔ p = (k, ys) ∨ (p ∈ L ∧ ¬ p.1 = k) := by
  unfold putP
  rw [insP_mem, List.mem_filter]
  simp
theorem putP_rising {L : List (Int × List Int)} (h : L.Pairwise fun p q => p.1 < q.1) (k : Int) (ys : List Int) : (putP L k ys).Pairwise fun p q => p.1 < q.1 :=
  insP_rising _ _ (h.filter _) fun p hp => by simpa using (List.mem_filter.1 hp).2
theorem mem_one {L : List (Int × List Int)} (h : L.Pairwise fun p q => p.1 < q.1) {p q : Int × List Int} (hp : p ∈ L) (hq : q ∈ L) (e : p.1 = q.1) : p = q := by
  induction L with
  | nil => simp at hp
  | cons y r ih =>
    obtain ⟨h1, h2⟩ := List.pairwise_cons.1 h
    rcases List.mem_cons.1 hp with rfl | hp' <;> rcases List.mem_cons.1 hq with rfl | hq'
    · rfl
    · have := h1 q hq'; omega
    · have := h1 p hp'; omega
    · exact ih h2 hp' hq'
theorem at_mem {L : List (Int × List Int)} (h : L.Pairwise fun p q => p.1 < q.1) {k : Int} {ys : List Int} (hm : (k, ys) ∈ L) : atP L k = ys ∧ hasP L k = true := by
  have hh : hasP L k = true := List.any_eq_true.2 ⟨_, hm, by simp⟩
  refine ⟨?_, hh⟩
  have hs : (L.find? fun p => decide (p.1 = k)).isSome = true := List.find?_isSome.2 ⟨_, hm, by simp⟩
  obtain ⟨y, hy⟩ := Option.isSome_iff_exists.1 hs
  have h1 := List.find?_some hy
  have h2 := List.mem_of_find?_eq_some hy
  simp at h1
  have := mem_one h h2 hm h1
  unfold atP
  rw [hy, this]
theorem at_none {L : List (Int × List Int)} {k : Int} (h : hasP L k = false) : atP L k = zs 128 := by
  have e : L.find? (fun p => decide (p.1 = k)) = none := by
    rw [List.find?_eq_none]
    intro p hp
    have := List.any_eq_false.1 h p hp
    exact this
  unfold atP
  rw [e]
theorem has_mem {L : List (Int × List Int)} {k : Int} (h : hasP L k = true) : ∃ ys, (k, ys) ∈ L := by
  obtain ⟨p, hp, e⟩ := List.any_eq_true.1 h
  simp at e
  exact ⟨p.2, by rw [← e]; exact hp⟩
theorem put_same {L : List (Int × List Int)} (h : L.Pairwise fun p q => p.1 < q.1) (k : Int) (ys : List Int) : atP (putP L k ys) k = ys ∧ hasP (putP L k ys) k = true := at_mem (putP_rising h k ys) (putP_mem.2 (Or.inl rfl))
theorem put_other {L : List (Int × List Int)} (h : L.Pairwise fun p q => p.1 < q.1) (k : Int) (ys : List Int) {j : Int} (hj : ¬ j = k) : atP (putP L k ys) j = atP L j ∧ hasP (putP L k ys) j = hasP L j := by
  cases hh : hasP L j with
  | true =>
    obtain ⟨zs', hm⟩ := has_mem hh
    obtain ⟨h1, h2⟩ := at_mem (putP_rising h k ys) (putP_mem.2 (Or.inr ⟨hm, hj⟩))
    rw [h1, h2, (at_mem h hm).1]
    exact ⟨rfl, rfl⟩
  | false =>
    have hn : hasP (putP L k ys) j = false := by
      cases hq : hasP (putP L k ys) j with
      | false => rfl
      | true =>
        obtain ⟨zs', hm⟩ := has_mem hq
        rcases putP_mem.1 hm with e | ⟨e, _⟩
        · cases e; exact absurd rfl hj
        · have := (at_mem h e).2
          rw [hh] at this; cases this
    rw [at_none hn, at_none hh, hn]
    exact ⟨rfl, rfl⟩
theorem put_length {L : List (Int × List Int)} (h : L.Pairwise fun p q => p.1 < q.1) (k : Int) (ys : List Int) : (putP L k ys).length = if hasP L k = true then L.length else L.length + 1 := by
  unfold putP
  rw [insP_length]
  split
  · rename_i hh
    have hf := Maps.length_strike (H := List Int) (k := .int .u16 k) (lits L) (by
      unfold lits
      rw [List.pairwise_map]
      exact h.imp fun {a b} q e => by simp at e; omega)
    have e1 : ((lits L).filter fun p => !p.1.sameKey (.int .u16 k)).length = (L.filter fun p => !decide (p.1 = k)).length := by
      unfold lits
      rw [List.filter_map, List.length_map]
      congr 1
      congr 1
      funext p
      show (!_) = _
      rw [same_u16]
    have e2 : (lits L).any (fun p => p.1.sameKey (.int .u16 k)) = true := by
      have := setD_has L k
      rw [hh] at this
      exact this
    rw [e1, e2] at hf
    simp [lits] at hf
    exact hf
  · rename_i hh
    have : L.filter (fun p => !decide (p.1 = k)) = L := List.filter_eq_self.2 fun p hp => by
      have := List.any_eq_false.1 (Bool.not_eq_true _ ▸ hh) p hp
      simpa using this
    rw [this]
theorem ownsMap_tight {w : World} {P : Program} {k : TypeId} {R : Value → Option (DataW (List Int) × List MemPlace)} {b n : Nat} {D : DataW (List Int)} (h : w.ownsMap P k R b n D) : w.ownsMap P k R b (Maps.size D) D := by
  obtain ⟨es, clock, hb, F, _, rfl⟩ := h
  exact ⟨es, clock, hb, F, by simp [Maps.size, length_sorted], rfl⟩
theorem ownsMap_off {F : Nat → Prop} {w w' : World} {P : Program} {k : TypeId} {R : Value → Option (DataW (List Int) × List MemPlace)} {b n : Nat} {D : DataW (List Int)} (h : w.ownsMap P k R b n D) (ho : Off F w w') (hF : ¬ F b) : w'.ownsMap P k R b n D := by
  have hl := h.lt
  obtain ⟨es, clock, hb, r⟩ := h
  exact ⟨es, clock, by rw [ho.block b hl hF]; exact hb, r⟩
/-- A set in memory. -/
structure SAt (w : World) (s m : Nat) (L : List (Int × List Int)) : Prop where
  row : Row w s #[.map (some m)] 71
  own : w.ownsMap Try.prog 40 wrR m L.length (setD L)
  ne : s ≠ m
  rising : L.Pairwise fun p q => p.1 < q.1
  small : L.length ≤ 4
  wr : ∀ p ∈ L, Wr p.2 ∧ 0 ≤ p.1 ∧ p.1 ≤ 65535
/-- The two blocks of a set. -/
def two (g a : Nat) (k : Nat) : Prop := k = g ∨ k = a
theorem SAt.off {F : Nat → Prop} {w w' : World} {s m : Nat} {L : List (Int × List Int)} (c : SAt w s m L) (ho : Off F w w') (hF : ∀ k, two s m k → ¬ F k) : SAt w' s m L :=
  { c with row := c.row.off ho (hF _ (Or.inl rfl)), own := ownsMap_off c.own ho (hF _ (Or.inr rfl)) }
theorem SAt.below {w w' : World} {s m : Nat} {L : List (Int × List Int)} (c : SAt w s m L) (hb : Below w.heap.size w w') : SAt w' s m L :=
  c.off (F := fun _ => False) (Off.of_below hb) fun _ _ q => q
theorem SAt.lt {w : World} {s m : Nat} {L : List (Int × List Int)} (c : SAt w s m L) {k : Nat} (hk : two s m k) : k < w.heap.size := by
  rcases hk with rfl | rfl
  · exact c.row.lt
  · exact c.own.lt
theorem zs_wr : Wr (zs 128) := ⟨zs_length _, fun y hy => by rw [List.eq_of_mem_replicate hy]; omega⟩
theorem SAt.at_wr {w : World} {s m : Nat} {L : List (Int × List Int)} (c : SAt w s m L) (k : Int) : Wr (atP L k) := by
  cases hh : hasP L k with
  | true =>
    obtain ⟨ys, hm⟩ := has_mem hh
    rw [(at_mem c.rising hm).1]
    exact (c.wr _ hm).1
  | false => rw [at_none hh]; exact zs_wr
end Go.Proofs.Ytmnbfcmamhinbab.Ws
