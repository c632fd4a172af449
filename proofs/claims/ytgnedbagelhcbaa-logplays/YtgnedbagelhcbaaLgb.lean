/-
  A log as values and as memory; plain facts on its lists.
-/
import Derived.Test.YtgnedbagelhcbaaChl
import Derived.Test.YtgnedbagelhcbaaJd
import Derived.Test.YtgnedbagelhcbaaJc
namespace Go.Proofs.Ytgnedbagelhcbaa
open Go.ChangeShapes Go.WideShapes Go.ChangeAt Go.RowKit
set_option linter.unusedVariables false
set_option linter.unusedSimpArgs false
set_option maxRecDepth 20000
structure Lg where
  at_ : Int
  size : Int
  ep : Int
  last : List Int
  sealed : List Ck.O
  open_ : ByteArray
  next : Int
  fresh : Bool
  fin : Int
  dur : Int
def lcells (pd vl vs : Value) (l : Lg) : Array Value := #[pd, .int .i64 l.at_, .int .i64 l.size, .int .u32 l.ep, vl, vs, .string l.open_, .int .u32 l.next, .bool l.fresh, .int .u64 l.fin, .int .u64 l.dur]
theorem size98 : (Try.prog.info? 98).map (·.size) = some 3 := by kernel_rfl
theorem zero98 (w : World) : (zeroValue 98).run Try.prog w = .ok (.agg #[.pointer none, .int .i64 0, .int .i64 0]) w := (zero_of_info (P := Try.prog) (t := 98) (v := .agg #[.pointer none, .int .i64 0, .int .i64 0]) (n := 3) (by kernel_rfl)).1 w
def OwnU (w : World) (base : Nat) (v : Value) (xs : List Int) : Prop := w.ownsRow base 25 1 v xs.length (xs.map (Value.int .u64))
theorem OwnU.nil (w : World) (base : Nat) : OwnU w base (.slice none 0 0) [] := ⟨rfl, Or.inl ⟨rfl, rfl⟩⟩
theorem OwnU.keep {w w' : World} {base : Nat} {v : Value} {xs : List Int} (h : OwnU w base v xs) (hb : Below w.heap.size w w') : OwnU w' base v xs := by
  have hl := World.ownsRow.lt h
  obtain ⟨h1, h2⟩ := h
  refine ⟨h1, ?_⟩
  rcases h2 with h2 | ⟨g, cap, cur, rfl, hb', hc, rest⟩
  · exact Or.inl h2
  · exact Or.inr ⟨g, cap, cur, rfl, hb', (hb.block g (hl g rfl).2).trans hc, rest⟩
theorem OwnU.form {w : World} {base : Nat} {v : Value} {xs : List Int} (h : OwnU w base v xs) : ∃ oa cap, v = .slice oa xs.length cap := by
  rcases h.2 with ⟨rfl, h2⟩ | ⟨g, cap, cur, rfl, _⟩
  · exact ⟨none, 0, by rw [h2]⟩
  · exact ⟨_, cap, rfl⟩
end Go.Proofs.Ytgnedbagelhcbaa
