/-
  An oracle as the document tells it, and as it lies in memory; what its small calls do.
-/
import Derived.Test.YtmnbfcmamhinbaaArr
import Derived.Maps.RangeWalk
import Derived.Maps.OwnSet
import Derived.Maps.Ext
namespace Go.Proofs.Ytmnbfcmamhinbaa
open Go.ChangeShapes Go.WideShapes Go.ChangeAt Go.RowKit
open Go.Deep Go.Maps
set_option linter.unusedVariables false
set_option linter.unusedSimpArgs false

theorem law31 : Keyed Try.prog 31 := int_keyed Try.underlying31
theorem zero22 (w : World) : (zeroValue 22).run Try.prog w = .ok (.int .u32 0) w := by kernel_rfl

/-- The live transactions, each with its number and its start, as the map that holds them is read. -/
def lits (L : List (Int × Int)) : List (Lit × DataW Unit) := L.map fun p => (.int .u64 p.1, .lit (.int .u32 p.2))
def liveD (L : List (Int × Int)) : DataW Unit := .map (lits L)
theorem liveD_size (L : List (Int × Int)) : Maps.size (liveD L) = L.length := by simp [liveD, lits, Maps.size]
theorem same_u64 (a b : Int) : (Lit.int .u64 a).sameKey (.int .u64 b) = decide (a = b) := by simp [Lit.sameKey]
/-- Whether one is live. -/
def hasL (L : List (Int × Int)) (k : Int) : Bool := L.any fun p => decide (p.1 = k)
/-- The start of a live one; 0 where there is none. -/
def startL (L : List (Int × Int)) (k : Int) : Int := match L.find? fun p => decide (p.1 = k) with | some p => p.2 | none => 0
def endL (L : List (Int × Int)) (k : Int) : List (Int × Int) := L.filter fun p => !decide (p.1 = k)
theorem liveD_has (L : List (Int × Int)) (k : Int) : Maps.has (liveD L) (.int .u64 k) = hasL L k := by
  simp only [liveD, lits, Maps.has, hasL, List.any_map]
  congr 1
  funext p; exact same_u64 _ _
theorem liveD_at (L : List (Int × Int)) (k : Int) : (liveD L).atKey (.int .u64 k) (.lit (.int .u32 0)) = .lit (.int .u32 (startL L k)) := by
  unfold startL liveD lits DataW.atKey
  simp only
  rw [List.find?_map]
  have e : ((fun p : Lit × DataW Unit => p.1.sameKey (.int .u64 k)) ∘ fun p : Int × Int => ((.int .u64 p.1, .lit (.int .u32 p.2)) : Lit × DataW Unit)) = fun p => decide (p.1 = k) := by
    funext p; exact same_u64 _ _
  rw [e]
  cases L.find? fun p => decide (p.1 = k) <;> rfl
theorem liveD_del (L : List (Int × Int)) (k : Int) : (liveD L).del (.int .u64 k) = liveD (endL L k) := by
  show DataW.map ((lits L).filter fun p => !p.1.sameKey (.int .u64 k)) = _
  unfold liveD endL lits
  rw [List.filter_map]
  have e : ((fun p : Lit × DataW Unit => !p.1.sameKey (.int .u64 k)) ∘ fun p : Int × Int => ((.int .u64 p.1, .lit (.int .u32 p.2)) : Lit × DataW Unit)) = fun p => !decide (p.1 = k) := by
    funext p; show (!_) = _; rw [same_u64]
  rw [e]
theorem insert_last (L : List (Int × Int)) (k s : Int) (h : ∀ p ∈ L, p.1 < k) : DataW.insert (.int .u64 k, .lit (.int .u32 s)) (lits L) = lits (L ++ [(k, s)]) := by
  induction L with
  | nil => rfl
  | cons p r ih =>
    have hp := h p (by simp)
    have e : (Lit.int .u64 k).before (.int .u64 p.1) = false := by simp [Lit.before]; omega
    show (if (Lit.int .u64 k).before (.int .u64 p.1) = true then _ else (Lit.int .u64 p.1, DataW.lit (.int .u32 p.2)) :: DataW.insert _ (lits r)) = _
    rw [e, ih (fun q hq => h q (by simp [hq]))]
    rfl
theorem liveD_put (L : List (Int × Int)) (k s : Int) (h : ∀ p ∈ L, p.1 < k) : (liveD L).put (.int .u64 k) (.lit (.int .u32 s)) = liveD (L ++ [(k, s)]) := by
  have h0 : endL L k = L := List.filter_eq_self.2 fun p hp => by have := h p hp; simp; omega
  have := liveD_del L k
  rw [h0] at this
  show DataW.map (DataW.insert _ ((lits L).filter fun p => !p.1.sameKey (.int .u64 k))) = _
  have e : (lits L).filter (fun p => !p.1.sameKey (.int .u64 k)) = lits L := by
    have q : DataW.map ((lits L).filter fun p => !p.1.sameKey (.int .u64 k)) = DataW.map (lits L) := this
    injection q
  rw [e, insert_last L k s h]
  rfl
theorem ownsMap_tight {w : World} {P : Program} {k : TypeId} {R : Value → Option (DataW Unit × List MemPlace)} {b n : Nat} {D : DataW Unit} (h : w.ownsMap P k R b n D) : w.ownsMap P k R b (Maps.size D) D := by
  obtain ⟨es, clock, hb, F, _, rfl⟩ := h
  exact ⟨es, clock, hb, F, by simp [Maps.size, length_sorted], rfl⟩
/-- An oracle in memory. -/
structure OAt (w : World) (g m : Nat) (last max begun : Int) (L : List (Int × Int)) : Prop where
  row : Row w g #[.int .u32 last, .int .u32 max, .int .u64 begun, .map (some m)] 74
  own : w.ownsMap Try.prog 31 (plainElem Try.prog 22) m L.length (liveD L)
  ne : g ≠ m
  lo : 0 ≤ last ∧ last ≤ max ∧ max ≤ 4294967295
  nums : ∀ p ∈ L, 1 ≤ p.1 ∧ p.1 ≤ begun ∧ 0 ≤ p.2 ∧ p.2 ≤ last
  rising : L.Pairwise fun p q => p.1 < q.1
  small : L.length ≤ 8
  pos : 0 ≤ begun
/-- The two blocks of an oracle. -/
def two (g a : Nat) (k : Nat) : Prop := k = g ∨ k = a
theorem ownsMap_off {F : Nat → Prop} {w w' : World} {P : Program} {k : TypeId} {R : Value → Option (DataW Unit × List MemPlace)} {b n : Nat} {D : DataW Unit} (h : w.ownsMap P k R b n D) (ho : Off F w w') (hF : ¬ F b) : w'.ownsMap P k R b n D := by
  have hl := h.lt
  obtain ⟨es, clock, hb, r⟩ := h
  exact ⟨es, clock, by rw [ho.block b hl hF]; exact hb, r⟩
theorem OAt.off {F : Nat → Prop} {w w' : World} {g m : Nat} {last max begun : Int} {L : List (Int × Int)} (c : OAt w g m last max begun L) (ho : Off F w w') (hF : ∀ k, two g m k → ¬ F k) : OAt w' g m last max begun L :=
  { c with row := c.row.off ho (hF _ (Or.inl rfl)), own := ownsMap_off c.own ho (hF _ (Or.inr rfl)) }
theorem OAt.below {w w' : World} {g m : Nat} {last max begun : Int} {L : List (Int × Int)} (c : OAt w g m last max begun L) (hb : Below w.heap.size w w') : OAt w' g m last max begun L :=
  c.off (F := fun _ => False) (Off.of_below hb) fun _ _ q => q
theorem OAt.lt {w : World} {g m : Nat} {last max begun : Int} {L : List (Int × Int)} (c : OAt w g m last max begun L) {k : Nat} (hk : two g m k) : k < w.heap.size := by
  rcases hk with rfl | rfl
  · exact c.row.lt
  · exact c.own.lt
theorem below_same {a b : World} (h : b.heap = a.heap) (h1 : b.os = a.os) (h2 : b.tape = a.tape) (h3 : b.output = a.output) : Below a.heap.size a b := ⟨h1, h2, h3, by rw [h]; exact Nat.le_refl _, fun k _ => by rw [h]⟩
theorem below_drew (w : World) : Below w.heap.size w w.drew := (Below.refl _ _).drew
end Go.Proofs.Ytmnbfcmamhinbaa
