/-
  Plain facts of the checksum's register: its steps are linear and lose nothing, and the product that Join makes is so many steps.
-/
import Derived.Test.YtgnedbagelhcbaaRows
namespace Go.Proofs.Ytgnedbagelhcbaa
set_option linter.unusedVariables false
set_option linter.unusedSimpArgs false
set_option maxRecDepth 20000
def step (r : BitVec 32) : BitVec 32 := (r >>> 1) ^^^ (if r.getLsbD 0 then 0xedb88320#32 else 0#32)
def steps : Nat → BitVec 32 → BitVec 32
  | 0, r => r
  | k + 1, r => step (steps k r)
def run (f : Nat → BitVec 32) : Nat → BitVec 32 → BitVec 32
  | 0, r => r
  | k + 1, r => steps 8 (run f k r ^^^ f k)
end Go.Proofs.Ytgnedbagelhcbaa
