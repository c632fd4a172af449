/-
  No cell of these rows narrows 'for every input' (looked for: loops, veiled, ifaces, maps, wideKeys, modest, calm, conditions, laid).
  DERIVED. THE GIVEN ROWS OF THIS SEAT. 5 by the template 'for every input the law returns true; each argument reads behind the call as it read before'; 0 by the template 'total and deterministic' (their statements: YtehogiondcpbcaaTotals.lean).
  GIVEN WITH THE SEED: the statements are not yours to turn. If you find one false, say at which input.
  Laid BY PROGRAM, IN A SANDBOX (cutbox-rows.mjs): the forced cells as the released guide's own fill.sh prints them over the translation 61dfd11d850e3caf… (all of the seat's roots in one cut). By AI agents, Wed Nov 11 2026. No macro, syntax, notation, axiom, sorry.
-/
import Derived.Test.YtehogiondcpbcaaChecked
import GoSem.Claim
import GoSem.ClaimJoined
import GoSem.ClaimMapViews
import Derived.JoinedTies
import Derived.KernelRfl
namespace Go.Proofs.Ytehogiondcpbcaa
/- THE CELL 'sum', in the pinned program and in every row, IS THE sha256 OF THE DUMP (.gsa) THAT YtehogiondcpbcaaProg.lean LOADS. Nothing in Lean hashes anything: it is a label: what it is worth is what the hold of that sum in a sandbox is worth. -/
noncomputable def Try.pinned : Pinned := { name := "ytehogiondcpbcaa", sum := "61dfd11d850e3caff089e60b7e7fea62bc4d5082977272f91af1fb97bdd96bf6", checked := Try.checked }
namespace Rows
def none {H : Type} : Left H := { results := [], args := [] }

/-- 'varvelaw13.CacheWal': WHATEVER THE INPUT: true; the input reads as it did. -/
def cacheWalSpec : ChangeSpec := { name := "cacheWal", fn := fun _ => fun
  | [d1, d2] => { results := [.lit (.bool true)], args := [d1, d2] }
  | _ => none }
def cacheWalRow : OpenClaim := { program := "ytehogiondcpbcaa", sum := "61dfd11d850e3caff089e60b7e7fea62bc4d5082977272f91af1fb97bdd96bf6", func := "varve/varvelaw13.CacheWal", spec := "cacheWal", unfollowed := true, recurses := true, plainKeys := false, apart := false }
def CacheWalSaid : Prop := cacheWalRow.holds Try.pinned (OpenSpec.ofChange cacheWalSpec)

/-- ITS FALSE NEIGHBOUR: 'it returns false'. Refute it at one input. -/
def cacheWalWrong : ChangeSpec := { name := "cacheWal", fn := fun _ => fun
  | [d1, d2] => { results := [.lit (.bool false)], args := [d1, d2] }
  | _ => none }
def CacheWalWrongFalsely : Prop := cacheWalRow.holds Try.pinned (OpenSpec.ofChange cacheWalWrong)

/-- 'varvelaw13.CacheSees': WHATEVER THE INPUT: true; the input reads as it did. -/
def cacheSeesSpec : ChangeSpec := { name := "cacheSees", fn := fun _ => fun
  | [d1, d2] => { results := [.lit (.bool true)], args := [d1, d2] }
  | _ => none }
def cacheSeesRow : OpenClaim := { program := "ytehogiondcpbcaa", sum := "61dfd11d850e3caff089e60b7e7fea62bc4d5082977272f91af1fb97bdd96bf6", func := "varve/varvelaw13.CacheSees", spec := "cacheSees", unfollowed := true, recurses := true, plainKeys := false, apart := false }
def CacheSeesSaid : Prop := cacheSeesRow.holds Try.pinned (OpenSpec.ofChange cacheSeesSpec)

/-- ITS FALSE NEIGHBOUR: 'it returns false'. Refute it at one input. -/
def cacheSeesWrong : ChangeSpec := { name := "cacheSees", fn := fun _ => fun
  | [d1, d2] => { results := [.lit (.bool false)], args := [d1, d2] }
  | _ => none }
def CacheSeesWrongFalsely : Prop := cacheSeesRow.holds Try.pinned (OpenSpec.ofChange cacheSeesWrong)

/-- 'varvelaw13.CachePins': WHATEVER THE INPUT: true; the input reads as it did. -/
def cachePinsSpec : ChangeSpec := { name := "cachePins", fn := fun _ => fun
  | [d1, d2] => { results := [.lit (.bool true)], args := [d1, d2] }
  | _ => none }
def cachePinsRow : OpenClaim := { program := "ytehogiondcpbcaa", sum := "61dfd11d850e3caff089e60b7e7fea62bc4d5082977272f91af1fb97bdd96bf6", func := "varve/varvelaw13.CachePins", spec := "cachePins", unfollowed := true, recurses := true, plainKeys := false, apart := false }
def CachePinsSaid : Prop := cachePinsRow.holds Try.pinned (OpenSpec.ofChange cachePinsSpec)

/-- ITS FALSE NEIGHBOUR: 'it returns false'. Refute it at one input. -/
def cachePinsWrong : ChangeSpec := { name := "cachePins", fn := fun _ => fun
  | [d1, d2] => { results := [.lit (.bool false)], args := [d1, d2] }
  | _ => none }
def CachePinsWrongFalsely : Prop := cachePinsRow.holds Try.pinned (OpenSpec.ofChange cachePinsWrong)

/-- 'varvelaw13.CacheLasts': WHATEVER THE INPUT: true; the input reads as it did. -/
def cacheLastsSpec : ChangeSpec := { name := "cacheLasts", fn := fun _ => fun
  | [d1, d2] => { results := [.lit (.bool true)], args := [d1, d2] }
  | _ => none }
def cacheLastsRow : OpenClaim := { program := "ytehogiondcpbcaa", sum := "61dfd11d850e3caff089e60b7e7fea62bc4d5082977272f91af1fb97bdd96bf6", func := "varve/varvelaw13.CacheLasts", spec := "cacheLasts", unfollowed := true, recurses := true, plainKeys := false, apart := false }
def CacheLastsSaid : Prop := cacheLastsRow.holds Try.pinned (OpenSpec.ofChange cacheLastsSpec)

/-- ITS FALSE NEIGHBOUR: 'it returns false'. Refute it at one input. -/
def cacheLastsWrong : ChangeSpec := { name := "cacheLasts", fn := fun _ => fun
  | [d1, d2] => { results := [.lit (.bool false)], args := [d1, d2] }
  | _ => none }
def CacheLastsWrongFalsely : Prop := cacheLastsRow.holds Try.pinned (OpenSpec.ofChange cacheLastsWrong)

/-- 'varvelaw13.CacheTorn': WHATEVER THE INPUT: true; the input reads as it did. -/
def cacheTornSpec : ChangeSpec := { name := "cacheTorn", fn := fun _ => fun
  | [d1, d2] => { results := [.lit (.bool true)], args := [d1, d2] }
  | _ => none }
def cacheTornRow : OpenClaim := { program := "ytehogiondcpbcaa", sum := "61dfd11d850e3caff089e60b7e7fea62bc4d5082977272f91af1fb97bdd96bf6", func := "varve/varvelaw13.CacheTorn", spec := "cacheTorn", unfollowed := true, recurses := true, plainKeys := false, apart := false }
def CacheTornSaid : Prop := cacheTornRow.holds Try.pinned (OpenSpec.ofChange cacheTornSpec)

/-- ITS FALSE NEIGHBOUR: 'it returns false'. Refute it at one input. -/
def cacheTornWrong : ChangeSpec := { name := "cacheTorn", fn := fun _ => fun
  | [d1, d2] => { results := [.lit (.bool false)], args := [d1, d2] }
  | _ => none }
def CacheTornWrongFalsely : Prop := cacheTornRow.holds Try.pinned (OpenSpec.ofChange cacheTornWrong)

/- THE SECOND FORM. 'bulk': how many values and letters a reading holds, each counted each time it is reached (what is shared counts as often as it is met; a slice's spare places count too). A statement '..UptoSaid' is the law's where the arguments, and the package variables that the reading takes, are together of bulk at most 1048576: NARROWER than '..Said'. Prove '..Said' where nothing that the law and all that it calls make is longer than what came in: it says more and counts as full. Else prove '..UptoSaid'. A law counts once. -/
mutual
def uptoBulk {H : Type} : DataW H → Nat
  | .lit (.string bytes) => bytes.length + 1
  | .lit _ => 1
  | .nil => 1
  | .ptr d => uptoBulk d + 1
  | .slice elems spare => uptoBulkAll elems + uptoBulkAll spare + 1
  | .agg parts => uptoBulkAll parts + 1
  | .iface _ d => uptoBulk d + 1
  | .map entries => uptoBulkEntries entries + 1
  | .held _ => 1
def uptoBulkAll {H : Type} : List (DataW H) → Nat
  | [] => 0
  | d :: r => uptoBulk d + uptoBulkAll r
def uptoBulkEntries {H : Type} : List (Lit × DataW H) → Nat
  | [] => 0
  | x :: r => uptoBulkEntry x + uptoBulkEntries r
def uptoBulkEntry {H : Type} : Lit × DataW H → Nat
  | (.string bytes, d) => bytes.length + uptoBulk d + 1
  | (_, d) => uptoBulk d + 1
 end
def uptoSmall : (H : Type) → List (DataW H) → Bool := fun _ ds => decide (uptoBulkAll ds ≤ 1048576)
def OpenSpec.upto (s : _root_.Go.ChangeSpec) : _root_.Go.OpenSpec := { _root_.Go.OpenSpec.ofChange s with cond := some uptoSmall }

/-- 'varvelaw13.CacheWal', WHERE WHAT IT READS IS OF BULK AT MOST 1048576: true; the input reads as it did. -/
def cacheWalUptoRow : OpenClaim := { program := "ytehogiondcpbcaa", sum := "61dfd11d850e3caff089e60b7e7fea62bc4d5082977272f91af1fb97bdd96bf6", func := "varve/varvelaw13.CacheWal", spec := "cacheWal", unfollowed := true, recurses := true, plainKeys := false, apart := false, narrowed := true }
def CacheWalUptoSaid : Prop := cacheWalUptoRow.holds Try.pinned (OpenSpec.upto cacheWalSpec)

/-- 'varvelaw13.CacheSees', WHERE WHAT IT READS IS OF BULK AT MOST 1048576: true; the input reads as it did. -/
def cacheSeesUptoRow : OpenClaim := { program := "ytehogiondcpbcaa", sum := "61dfd11d850e3caff089e60b7e7fea62bc4d5082977272f91af1fb97bdd96bf6", func := "varve/varvelaw13.CacheSees", spec := "cacheSees", unfollowed := true, recurses := true, plainKeys := false, apart := false, narrowed := true }
def CacheSeesUptoSaid : Prop := cacheSeesUptoRow.holds Try.pinned (OpenSpec.upto cacheSeesSpec)

/-- 'varvelaw13.CachePins', WHERE WHAT IT READS IS OF BULK AT MOST 1048576: true; the input reads as it did. -/
def cachePinsUptoRow : OpenClaim := { program := "ytehogiondcpbcaa", sum := "61dfd11d850e3caff089e60b7e7fea62bc4d5082977272f91af1fb97bdd96bf6", func := "varve/varvelaw13.CachePins", spec := "cachePins", unfollowed := true, recurses := true, plainKeys := false, apart := false, narrowed := true }
def CachePinsUptoSaid : Prop := cachePinsUptoRow.holds Try.pinned (OpenSpec.upto cachePinsSpec)

/-- 'varvelaw13.CacheLasts', WHERE WHAT IT READS IS OF BULK AT MOST 1048576: true; the input reads as it did. -/
def cacheLastsUptoRow : OpenClaim := { program := "ytehogiondcpbcaa", sum := "61dfd11d850e3caff089e60b7e7fea62bc4d5082977272f91af1fb97bdd96bf6", func := "varve/varvelaw13.CacheLasts", spec := "cacheLasts", unfollowed := true, recurses := true, plainKeys := false, apart := false, narrowed := true }
def CacheLastsUptoSaid : Prop := cacheLastsUptoRow.holds Try.pinned (OpenSpec.upto cacheLastsSpec)

/-- 'varvelaw13.CacheTorn', WHERE WHAT IT READS IS OF BULK AT MOST 1048576: true; the input reads as it did. -/
def cacheTornUptoRow : OpenClaim := { program := "ytehogiondcpbcaa", sum := "61dfd11d850e3caff089e60b7e7fea62bc4d5082977272f91af1fb97bdd96bf6", func := "varve/varvelaw13.CacheTorn", spec := "cacheTorn", unfollowed := true, recurses := true, plainKeys := false, apart := false, narrowed := true }
def CacheTornUptoSaid : Prop := cacheTornUptoRow.holds Try.pinned (OpenSpec.upto cacheTornSpec)

end Rows
end Go.Proofs.Ytehogiondcpbcaa
