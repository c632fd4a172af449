/-
  No cell of these rows narrows 'for every input' (looked for: loops, veiled, ifaces, maps, wideKeys, modest, calm, conditions, laid).
  DERIVED. THE GIVEN ROWS OF THIS SEAT. 5 by the template 'for every input the law returns true; each argument reads behind the call as it read before'; 0 by the template 'total and deterministic' (their statements: YtobdeijbmnenmabTotals.lean).
  GIVEN WITH THE SEED: the statements are not yours to turn. If you find one false, say at which input.
  Laid BY PROGRAM, IN A SANDBOX (cutbox-rows.mjs): the forced cells as the released guide's own fill.sh prints them over the translation 021356e638701f1d… (all of the seat's roots in one cut). By AI agents, Wed Nov 11 2026. No macro, syntax, notation, axiom, sorry.
-/
import Derived.Test.YtobdeijbmnenmabChecked
import GoSem.Claim
import GoSem.ClaimJoined
import GoSem.ClaimMapViews
import Derived.JoinedTies
import Derived.KernelRfl
namespace Go.Proofs.Ytobdeijbmnenmab
/- THE CELL 'sum', in the pinned program and in every row, IS THE sha256 OF THE DUMP (.gsa) THAT YtobdeijbmnenmabProg.lean LOADS. Nothing in Lean hashes anything: it is a label: what it is worth is what the hold of that sum in a sandbox is worth. -/
noncomputable def Try.pinned : Pinned := { name := "ytobdeijbmnenmab", sum := "021356e638701f1d45ac4d705caab23d5e068d754eeb3d989e09c6a95090d23b", checked := Try.checked }
namespace Rows
def none {H : Type} : Left H := { results := [], args := [] }

/-- 'varvelaw12.ClockPlays': WHATEVER THE INPUT: true; the input reads as it did. -/
def clockPlaysSpec : ChangeSpec := { name := "clockPlays", fn := fun _ => fun
  | [d1, d2] => { results := [.lit (.bool true)], args := [d1, d2] }
  | _ => none }
def clockPlaysRow : OpenClaim := { program := "ytobdeijbmnenmab", sum := "021356e638701f1d45ac4d705caab23d5e068d754eeb3d989e09c6a95090d23b", func := "varve/varvelaw12.ClockPlays", spec := "clockPlays", apart := false }
def ClockPlaysSaid : Prop := clockPlaysRow.holds Try.pinned (OpenSpec.ofChange clockPlaysSpec)

/-- ITS FALSE NEIGHBOUR: 'it returns false'. Refute it at one input. -/
def clockPlaysWrong : ChangeSpec := { name := "clockPlays", fn := fun _ => fun
  | [d1, d2] => { results := [.lit (.bool false)], args := [d1, d2] }
  | _ => none }
def ClockPlaysWrongFalsely : Prop := clockPlaysRow.holds Try.pinned (OpenSpec.ofChange clockPlaysWrong)

/-- 'varvelaw12.ClockPins': WHATEVER THE INPUT: true; the input reads as it did. -/
def clockPinsSpec : ChangeSpec := { name := "clockPins", fn := fun _ => fun
  | [d1, d2] => { results := [.lit (.bool true)], args := [d1, d2] }
  | _ => none }
def clockPinsRow : OpenClaim := { program := "ytobdeijbmnenmab", sum := "021356e638701f1d45ac4d705caab23d5e068d754eeb3d989e09c6a95090d23b", func := "varve/varvelaw12.ClockPins", spec := "clockPins", apart := false }
def ClockPinsSaid : Prop := clockPinsRow.holds Try.pinned (OpenSpec.ofChange clockPinsSpec)

/-- ITS FALSE NEIGHBOUR: 'it returns false'. Refute it at one input. -/
def clockPinsWrong : ChangeSpec := { name := "clockPins", fn := fun _ => fun
  | [d1, d2] => { results := [.lit (.bool false)], args := [d1, d2] }
  | _ => none }
def ClockPinsWrongFalsely : Prop := clockPinsRow.holds Try.pinned (OpenSpec.ofChange clockPinsWrong)

/-- 'varvelaw12.ClockCold': WHATEVER THE INPUT: true; the input reads as it did. -/
def clockColdSpec : ChangeSpec := { name := "clockCold", fn := fun _ => fun
  | [d1, d2] => { results := [.lit (.bool true)], args := [d1, d2] }
  | _ => none }
def clockColdRow : OpenClaim := { program := "ytobdeijbmnenmab", sum := "021356e638701f1d45ac4d705caab23d5e068d754eeb3d989e09c6a95090d23b", func := "varve/varvelaw12.ClockCold", spec := "clockCold", apart := false }
def ClockColdSaid : Prop := clockColdRow.holds Try.pinned (OpenSpec.ofChange clockColdSpec)

/-- ITS FALSE NEIGHBOUR: 'it returns false'. Refute it at one input. -/
def clockColdWrong : ChangeSpec := { name := "clockCold", fn := fun _ => fun
  | [d1, d2] => { results := [.lit (.bool false)], args := [d1, d2] }
  | _ => none }
def ClockColdWrongFalsely : Prop := clockColdRow.holds Try.pinned (OpenSpec.ofChange clockColdWrong)

/-- 'varvelaw12.ClockFair': WHATEVER THE INPUT: true; the input reads as it did. -/
def clockFairSpec : ChangeSpec := { name := "clockFair", fn := fun _ => fun
  | [d1, d2] => { results := [.lit (.bool true)], args := [d1, d2] }
  | _ => none }
def clockFairRow : OpenClaim := { program := "ytobdeijbmnenmab", sum := "021356e638701f1d45ac4d705caab23d5e068d754eeb3d989e09c6a95090d23b", func := "varve/varvelaw12.ClockFair", spec := "clockFair", apart := false }
def ClockFairSaid : Prop := clockFairRow.holds Try.pinned (OpenSpec.ofChange clockFairSpec)

/-- ITS FALSE NEIGHBOUR: 'it returns false'. Refute it at one input. -/
def clockFairWrong : ChangeSpec := { name := "clockFair", fn := fun _ => fun
  | [d1, d2] => { results := [.lit (.bool false)], args := [d1, d2] }
  | _ => none }
def ClockFairWrongFalsely : Prop := clockFairRow.holds Try.pinned (OpenSpec.ofChange clockFairWrong)

/-- 'varvelaw12.ClockNone': WHATEVER THE INPUT: true; the input reads as it did. -/
def clockNoneSpec : ChangeSpec := { name := "clockNone", fn := fun _ => fun
  | [d] => { results := [.lit (.bool true)], args := [d] }
  | _ => none }
def clockNoneRow : OpenClaim := { program := "ytobdeijbmnenmab", sum := "021356e638701f1d45ac4d705caab23d5e068d754eeb3d989e09c6a95090d23b", func := "varve/varvelaw12.ClockNone", spec := "clockNone", apart := false }
def ClockNoneSaid : Prop := clockNoneRow.holds Try.pinned (OpenSpec.ofChange clockNoneSpec)

/-- ITS FALSE NEIGHBOUR: 'it returns false'. Refute it at one input. -/
def clockNoneWrong : ChangeSpec := { name := "clockNone", fn := fun _ => fun
  | [d] => { results := [.lit (.bool false)], args := [d] }
  | _ => none }
def ClockNoneWrongFalsely : Prop := clockNoneRow.holds Try.pinned (OpenSpec.ofChange clockNoneWrong)

/- THE SECOND FORM. 'bulk': how many values and letters a reading holds, each counted each time it is reached (what is shared counts as often as it is met; a slice's spare places count too). A statement '..UptoSaid' is the law's where the arguments, and the package variables that the reading takes, are together of bulk at most 1048576: NARROWER than '..Said'. Prove '..Said' where nothing that the law and all that it calls make is longer than what came in: it says more and counts as full. Else prove '..UptoSaid'. A law counts once. -/
mutual
def uptoBulk {H : Type} : DataW H → Nat
  | .lit (.string bytes) => bytes.length + 1
  | .lit _ => 1
  | .nil => 1
  | .ptr d => uptoBulk d + 1
  | .slice elems spare => uptoBulkAll elems + uptoBulkAll spare + 1
  | .agg parts => uptoBulkAll parts + 1
  | .iface _ d => uptoBulk d + 1
  | .map entries => uptoBulkEntries entries + 1
  | .held _ => 1
def uptoBulkAll {H : Type} : List (DataW H) → Nat
  | [] => 0
  | d :: r => uptoBulk d + uptoBulkAll r
def uptoBulkEntries {H : Type} : List (Lit × DataW H) → Nat
  | [] => 0
  | x :: r => uptoBulkEntry x + uptoBulkEntries r
def uptoBulkEntry {H : Type} : Lit × DataW H → Nat
  | (.string bytes, d) => bytes.length + uptoBulk d + 1
  | (_, d) => uptoBulk d + 1
 end
def uptoSmall : (H : Type) → List (DataW H) → Bool := fun _ ds => decide (uptoBulkAll ds ≤ 1048576)
def OpenSpec.upto (s : _root_.Go.ChangeSpec) : _root_.Go.OpenSpec := { _root_.Go.OpenSpec.ofChange s with cond := some uptoSmall }

/-- 'varvelaw12.ClockPlays', WHERE WHAT IT READS IS OF BULK AT MOST 1048576: true; the input reads as it did. -/
def clockPlaysUptoRow : OpenClaim := { program := "ytobdeijbmnenmab", sum := "021356e638701f1d45ac4d705caab23d5e068d754eeb3d989e09c6a95090d23b", func := "varve/varvelaw12.ClockPlays", spec := "clockPlays", apart := false, narrowed := true }
def ClockPlaysUptoSaid : Prop := clockPlaysUptoRow.holds Try.pinned (OpenSpec.upto clockPlaysSpec)

/-- 'varvelaw12.ClockPins', WHERE WHAT IT READS IS OF BULK AT MOST 1048576: true; the input reads as it did. -/
def clockPinsUptoRow : OpenClaim := { program := "ytobdeijbmnenmab", sum := "021356e638701f1d45ac4d705caab23d5e068d754eeb3d989e09c6a95090d23b", func := "varve/varvelaw12.ClockPins", spec := "clockPins", apart := false, narrowed := true }
def ClockPinsUptoSaid : Prop := clockPinsUptoRow.holds Try.pinned (OpenSpec.upto clockPinsSpec)

/-- 'varvelaw12.ClockCold', WHERE WHAT IT READS IS OF BULK AT MOST 1048576: true; the input reads as it did. -/
def clockColdUptoRow : OpenClaim := { program := "ytobdeijbmnenmab", sum := "021356e638701f1d45ac4d705caab23d5e068d754eeb3d989e09c6a95090d23b", func := "varve/varvelaw12.ClockCold", spec := "clockCold", apart := false, narrowed := true }
def ClockColdUptoSaid : Prop := clockColdUptoRow.holds Try.pinned (OpenSpec.upto clockColdSpec)

/-- 'varvelaw12.ClockFair', WHERE WHAT IT READS IS OF BULK AT MOST 1048576: true; the input reads as it did. -/
def clockFairUptoRow : OpenClaim := { program := "ytobdeijbmnenmab", sum := "021356e638701f1d45ac4d705caab23d5e068d754eeb3d989e09c6a95090d23b", func := "varve/varvelaw12.ClockFair", spec := "clockFair", apart := false, narrowed := true }
def ClockFairUptoSaid : Prop := clockFairUptoRow.holds Try.pinned (OpenSpec.upto clockFairSpec)

/-- 'varvelaw12.ClockNone', WHERE WHAT IT READS IS OF BULK AT MOST 1048576: true; the input reads as it did. -/
def clockNoneUptoRow : OpenClaim := { program := "ytobdeijbmnenmab", sum := "021356e638701f1d45ac4d705caab23d5e068d754eeb3d989e09c6a95090d23b", func := "varve/varvelaw12.ClockNone", spec := "clockNone", apart := false, narrowed := true }
def ClockNoneUptoSaid : Prop := clockNoneUptoRow.holds Try.pinned (OpenSpec.upto clockNoneSpec)

end Rows
end Go.Proofs.Ytobdeijbmnenmab
