/-
  No cell of these rows narrows 'for every input' (looked for: loops, veiled, ifaces, maps, wideKeys, modest, calm, conditions, laid).
  DERIVED. THE GIVEN ROWS OF THIS SEAT. 6 by the template 'for every input the law returns true; each argument reads behind the call as it read before'; 0 by the template 'total and deterministic' (their statements: YtgnedbagelhcbaaTotals.lean).
  GIVEN WITH THE SEED: the statements are not yours to turn. If you find one false, say at which input.
  Laid BY PROGRAM, IN A SANDBOX (cutbox-rows.mjs): the forced cells as the released guide's own fill.sh prints them over the translation 028e3bdafb99e41e… (all of the seat's roots in one cut). By AI agents, Wed Nov 11 2026. No macro, syntax, notation, axiom, sorry.
-/
import Derived.Test.YtgnedbagelhcbaaChecked
import GoSem.Claim
import GoSem.ClaimJoined
import GoSem.ClaimMapViews
import Derived.JoinedTies
import Derived.KernelRfl
namespace Go.Proofs.Ytgnedbagelhcbaa
/- THE CELL 'sum', in the pinned program and in every row, IS THE sha256 OF THE DUMP (.gsa) THAT YtgnedbagelhcbaaProg.lean LOADS. Nothing in Lean hashes anything: it is a label: what it is worth is what the hold of that sum in a sandbox is worth. -/
noncomputable def Try.pinned : Pinned := { name := "ytgnedbagelhcbaa", sum := "028e3bdafb99e41e32501367962db4d2f338888b51599a3a730b1a52d66959a2", checked := Try.checked }
namespace Rows
def none {H : Type} : Left H := { results := [], args := [] }

/-- 'varvelaw11.LogPlays': WHATEVER THE INPUT: true; the input reads as it did. -/
def logPlaysSpec : ChangeSpec := { name := "logPlays", fn := fun _ => fun
  | [d1, d2, d3, d4, d5] => { results := [.lit (.bool true)], args := [d1, d2, d3, d4, d5] }
  | _ => none }
def logPlaysRow : OpenClaim := { program := "ytgnedbagelhcbaa", sum := "028e3bdafb99e41e32501367962db4d2f338888b51599a3a730b1a52d66959a2", func := "varve/varvelaw11.LogPlays", spec := "logPlays", plainKeys := false, apart := false }
def LogPlaysSaid : Prop := logPlaysRow.holds Try.pinned (OpenSpec.ofChange logPlaysSpec)

/-- ITS FALSE NEIGHBOUR: 'it returns false'. Refute it at one input. -/
def logPlaysWrong : ChangeSpec := { name := "logPlays", fn := fun _ => fun
  | [d1, d2, d3, d4, d5] => { results := [.lit (.bool false)], args := [d1, d2, d3, d4, d5] }
  | _ => none }
def LogPlaysWrongFalsely : Prop := logPlaysRow.holds Try.pinned (OpenSpec.ofChange logPlaysWrong)

/-- 'varvelaw11.LogScans': WHATEVER THE INPUT: true; the input reads as it did. -/
def logScansSpec : ChangeSpec := { name := "logScans", fn := fun _ => fun
  | [d1, d2, d3, d4, d5] => { results := [.lit (.bool true)], args := [d1, d2, d3, d4, d5] }
  | _ => none }
def logScansRow : OpenClaim := { program := "ytgnedbagelhcbaa", sum := "028e3bdafb99e41e32501367962db4d2f338888b51599a3a730b1a52d66959a2", func := "varve/varvelaw11.LogScans", spec := "logScans", plainKeys := false, apart := false }
def LogScansSaid : Prop := logScansRow.holds Try.pinned (OpenSpec.ofChange logScansSpec)

/-- ITS FALSE NEIGHBOUR: 'it returns false'. Refute it at one input. -/
def logScansWrong : ChangeSpec := { name := "logScans", fn := fun _ => fun
  | [d1, d2, d3, d4, d5] => { results := [.lit (.bool false)], args := [d1, d2, d3, d4, d5] }
  | _ => none }
def LogScansWrongFalsely : Prop := logScansRow.holds Try.pinned (OpenSpec.ofChange logScansWrong)

/-- 'varvelaw11.LogGhosts': WHATEVER THE INPUT: true; the input reads as it did. -/
def logGhostsSpec : ChangeSpec := { name := "logGhosts", fn := fun _ => fun
  | [d] => { results := [.lit (.bool true)], args := [d] }
  | _ => none }
def logGhostsRow : OpenClaim := { program := "ytgnedbagelhcbaa", sum := "028e3bdafb99e41e32501367962db4d2f338888b51599a3a730b1a52d66959a2", func := "varve/varvelaw11.LogGhosts", spec := "logGhosts", unfollowed := true, recurses := true, plainKeys := false, apart := false }
def LogGhostsSaid : Prop := logGhostsRow.holds Try.pinned (OpenSpec.ofChange logGhostsSpec)

/-- ITS FALSE NEIGHBOUR: 'it returns false'. Refute it at one input. -/
def logGhostsWrong : ChangeSpec := { name := "logGhosts", fn := fun _ => fun
  | [d] => { results := [.lit (.bool false)], args := [d] }
  | _ => none }
def LogGhostsWrongFalsely : Prop := logGhostsRow.holds Try.pinned (OpenSpec.ofChange logGhostsWrong)

/-- 'varvelaw11.LogFails': WHATEVER THE INPUT: true; the input reads as it did. -/
def logFailsSpec : ChangeSpec := { name := "logFails", fn := fun _ => fun
  | [d1, d2] => { results := [.lit (.bool true)], args := [d1, d2] }
  | _ => none }
def logFailsRow : OpenClaim := { program := "ytgnedbagelhcbaa", sum := "028e3bdafb99e41e32501367962db4d2f338888b51599a3a730b1a52d66959a2", func := "varve/varvelaw11.LogFails", spec := "logFails", unfollowed := true, recurses := true, plainKeys := false, apart := false }
def LogFailsSaid : Prop := logFailsRow.holds Try.pinned (OpenSpec.ofChange logFailsSpec)

/-- ITS FALSE NEIGHBOUR: 'it returns false'. Refute it at one input. -/
def logFailsWrong : ChangeSpec := { name := "logFails", fn := fun _ => fun
  | [d1, d2] => { results := [.lit (.bool false)], args := [d1, d2] }
  | _ => none }
def LogFailsWrongFalsely : Prop := logFailsRow.holds Try.pinned (OpenSpec.ofChange logFailsWrong)

/-- 'varvelaw11.LogRound': WHATEVER THE INPUT: true; the input reads as it did. -/
def logRoundSpec : ChangeSpec := { name := "logRound", fn := fun _ => fun
  | [d1, d2] => { results := [.lit (.bool true)], args := [d1, d2] }
  | _ => none }
def logRoundRow : OpenClaim := { program := "ytgnedbagelhcbaa", sum := "028e3bdafb99e41e32501367962db4d2f338888b51599a3a730b1a52d66959a2", func := "varve/varvelaw11.LogRound", spec := "logRound", unfollowed := true, recurses := true, plainKeys := false, apart := false }
def LogRoundSaid : Prop := logRoundRow.holds Try.pinned (OpenSpec.ofChange logRoundSpec)

/-- ITS FALSE NEIGHBOUR: 'it returns false'. Refute it at one input. -/
def logRoundWrong : ChangeSpec := { name := "logRound", fn := fun _ => fun
  | [d1, d2] => { results := [.lit (.bool false)], args := [d1, d2] }
  | _ => none }
def LogRoundWrongFalsely : Prop := logRoundRow.holds Try.pinned (OpenSpec.ofChange logRoundWrong)

/-- 'varvelaw11.LogNone': WHATEVER THE INPUT: true; the input reads as it did. -/
def logNoneSpec : ChangeSpec := { name := "logNone", fn := fun _ => fun
  | [d1, d2, d3, d4] => { results := [.lit (.bool true)], args := [d1, d2, d3, d4] }
  | _ => none }
def logNoneRow : OpenClaim := { program := "ytgnedbagelhcbaa", sum := "028e3bdafb99e41e32501367962db4d2f338888b51599a3a730b1a52d66959a2", func := "varve/varvelaw11.LogNone", spec := "logNone", plainKeys := false, apart := false }
def LogNoneSaid : Prop := logNoneRow.holds Try.pinned (OpenSpec.ofChange logNoneSpec)

/-- ITS FALSE NEIGHBOUR: 'it returns false'. Refute it at one input. -/
def logNoneWrong : ChangeSpec := { name := "logNone", fn := fun _ => fun
  | [d1, d2, d3, d4] => { results := [.lit (.bool false)], args := [d1, d2, d3, d4] }
  | _ => none }
def LogNoneWrongFalsely : Prop := logNoneRow.holds Try.pinned (OpenSpec.ofChange logNoneWrong)

/- THE SECOND FORM. 'bulk': how many values and letters a reading holds, each counted each time it is reached (what is shared counts as often as it is met; a slice's spare places count too). A statement '..UptoSaid' is the law's where the arguments, and the package variables that the reading takes, are together of bulk at most 1048576: NARROWER than '..Said'. Prove '..Said' where nothing that the law and all that it calls make is longer than what came in: it says more and counts as full. Else prove '..UptoSaid'. A law counts once. -/
mutual
def uptoBulk {H : Type} : DataW H → Nat
  | .lit (.string bytes) => bytes.length + 1
  | .lit _ => 1
  | .nil => 1
  | .ptr d => uptoBulk d + 1
  | .slice elems spare => uptoBulkAll elems + uptoBulkAll spare + 1
  | .agg parts => uptoBulkAll parts + 1
  | .iface _ d => uptoBulk d + 1
  | .map entries => uptoBulkEntries entries + 1
  | .held _ => 1
def uptoBulkAll {H : Type} : List (DataW H) → Nat
  | [] => 0
  | d :: r => uptoBulk d + uptoBulkAll r
def uptoBulkEntries {H : Type} : List (Lit × DataW H) → Nat
  | [] => 0
  | x :: r => uptoBulkEntry x + uptoBulkEntries r
def uptoBulkEntry {H : Type} : Lit × DataW H → Nat
  | (.string bytes, d) => bytes.length + uptoBulk d + 1
  | (_, d) => uptoBulk d + 1
 end
def uptoSmall : (H : Type) → List (DataW H) → Bool := fun _ ds => decide (uptoBulkAll ds ≤ 1048576)
def OpenSpec.upto (s : _root_.Go.ChangeSpec) : _root_.Go.OpenSpec := { _root_.Go.OpenSpec.ofChange s with cond := some uptoSmall }

/-- 'varvelaw11.LogPlays', WHERE WHAT IT READS IS OF BULK AT MOST 1048576: true; the input reads as it did. -/
def logPlaysUptoRow : OpenClaim := { program := "ytgnedbagelhcbaa", sum := "028e3bdafb99e41e32501367962db4d2f338888b51599a3a730b1a52d66959a2", func := "varve/varvelaw11.LogPlays", spec := "logPlays", plainKeys := false, apart := false, narrowed := true }
def LogPlaysUptoSaid : Prop := logPlaysUptoRow.holds Try.pinned (OpenSpec.upto logPlaysSpec)

/-- 'varvelaw11.LogScans', WHERE WHAT IT READS IS OF BULK AT MOST 1048576: true; the input reads as it did. -/
def logScansUptoRow : OpenClaim := { program := "ytgnedbagelhcbaa", sum := "028e3bdafb99e41e32501367962db4d2f338888b51599a3a730b1a52d66959a2", func := "varve/varvelaw11.LogScans", spec := "logScans", plainKeys := false, apart := false, narrowed := true }
def LogScansUptoSaid : Prop := logScansUptoRow.holds Try.pinned (OpenSpec.upto logScansSpec)

/-- 'varvelaw11.LogGhosts', WHERE WHAT IT READS IS OF BULK AT MOST 1048576: true; the input reads as it did. -/
def logGhostsUptoRow : OpenClaim := { program := "ytgnedbagelhcbaa", sum := "028e3bdafb99e41e32501367962db4d2f338888b51599a3a730b1a52d66959a2", func := "varve/varvelaw11.LogGhosts", spec := "logGhosts", unfollowed := true, recurses := true, plainKeys := false, apart := false, narrowed := true }
def LogGhostsUptoSaid : Prop := logGhostsUptoRow.holds Try.pinned (OpenSpec.upto logGhostsSpec)

/-- 'varvelaw11.LogFails', WHERE WHAT IT READS IS OF BULK AT MOST 1048576: true; the input reads as it did. -/
def logFailsUptoRow : OpenClaim := { program := "ytgnedbagelhcbaa", sum := "028e3bdafb99e41e32501367962db4d2f338888b51599a3a730b1a52d66959a2", func := "varve/varvelaw11.LogFails", spec := "logFails", unfollowed := true, recurses := true, plainKeys := false, apart := false, narrowed := true }
def LogFailsUptoSaid : Prop := logFailsUptoRow.holds Try.pinned (OpenSpec.upto logFailsSpec)

/-- 'varvelaw11.LogRound', WHERE WHAT IT READS IS OF BULK AT MOST 1048576: true; the input reads as it did. -/
def logRoundUptoRow : OpenClaim := { program := "ytgnedbagelhcbaa", sum := "028e3bdafb99e41e32501367962db4d2f338888b51599a3a730b1a52d66959a2", func := "varve/varvelaw11.LogRound", spec := "logRound", unfollowed := true, recurses := true, plainKeys := false, apart := false, narrowed := true }
def LogRoundUptoSaid : Prop := logRoundUptoRow.holds Try.pinned (OpenSpec.upto logRoundSpec)

/-- 'varvelaw11.LogNone', WHERE WHAT IT READS IS OF BULK AT MOST 1048576: true; the input reads as it did. -/
def logNoneUptoRow : OpenClaim := { program := "ytgnedbagelhcbaa", sum := "028e3bdafb99e41e32501367962db4d2f338888b51599a3a730b1a52d66959a2", func := "varve/varvelaw11.LogNone", spec := "logNone", plainKeys := false, apart := false, narrowed := true }
def LogNoneUptoSaid : Prop := logNoneUptoRow.holds Try.pinned (OpenSpec.upto logNoneSpec)

end Rows
end Go.Proofs.Ytgnedbagelhcbaa
