/-
  Proved here: what disk.New makes, and the block that the statements fill with bytes.
-/
import Derived.Test.YtcbjjofckhohjaaRead
namespace Go.Proofs.Ytcbjjofckhohjaa
open Go.ChangeShapes Go.WideShapes Go.ChangeAt Go.RowKit
set_option linter.unusedVariables false
set_option linter.unusedSimpArgs false
set_option maxRecDepth 20000

/-- A new disk. -/
def Dsk.new (n : Nat) : Dsk := ⟨n, fun _ _ => none, [], false, 0, 0, fun _ => false⟩
def Loc.new (k : Nat) : Loc := ⟨k, k + 1, .slice none 0 0, .map none⟩
theorem new_at (w : World) (n : Nat) (h1 : 1 ≤ n) (h2 : n ≤ 2048) : DAt (((w.alloc (.map #[] 0)).alloc (.map #[] 0)).alloc (.cells (dcells (Dsk.new n) (Loc.new w.heap.size)) 76)) (w.heap.size + 2) (Dsk.new n) (Loc.new w.heap.size) 0 where
  row := by have := Row.new ((w.alloc (.map #[] 0)).alloc (.map #[] 0)) (dcells (Dsk.new n) (Loc.new w.heap.size)) 76; simpa using this
  sure := ⟨0, ((SMap.made w).kept (Below.heap_alloc _ _ _ (by simp))).kept (Below.heap_alloc _ _ _ (by simp [Loc.new]; omega)), Nat.le_refl _⟩
  fresh := by
    have := (SMap.made (w.alloc (.map #[] 0))).kept (w' := ((w.alloc (.map #[] 0)).alloc (.map #[] 0)).alloc (.cells (dcells (Dsk.new n) (Loc.new w.heap.size)) 76)) (Below.heap_alloc _ _ _ (by simp))
    simpa [Loc.new, Dsk.new, over] using this
  ab := by simp [Loc.new]
  pend := World.ownsRow_nil _ _ _ _
  fails := FMap.none _
  fa := by simp [Loc.new]
  fb := by simp [Loc.new]
  big := by decide
  okp := fun q hq => nomatch hq
  small := ⟨h1, h2⟩
  opsn := by simp [Dsk.new]
  fusew := wf_of (by simp [Dsk.new]) (by simp [Dsk.new])
theorem new_none (n : Int) (hn : ¬ (1 ≤ n ∧ n ≤ 2048)) (w : World) : Calls Try.prog 16 #[.int .i64 n] w fun e w' => e = .returned (.pointer none) ∧ w' = w := by
  by_cases h : n < 1
  · clear hn
    go_enter Try.func16, Try.ntmps16
    go_wp2
    go_ret
    exact ⟨rfl, rfl⟩
  · have h' : n > 2048 := by omega
    clear hn
    go_enter Try.func16, Try.ntmps16
    go_wp2
    go_ret
    exact ⟨rfl, rfl⟩
theorem new_walk (n : Nat) (h1 : 1 ≤ n) (h2 : n ≤ 2048) (w : World) :
    Calls Try.prog 16 #[.int .i64 n] w fun e w' => e = .returned (.pointer (some ⟨w.heap.size + 1 + 1, 0, none⟩)) ∧ w' = (((w.alloc (.map #[] 0)).alloc (.map #[] 0)).alloc (.cells (dcells (Dsk.new n) (Loc.new w.heap.size)) 76)) := by
  have hmm := @run_makeMap Try.prog
  have k1 : ¬ (n : Int) < 1 := by omega
  have k2 : ¬ (n : Int) > 2048 := by omega
  go_enter Try.func16, Try.ntmps16
  go_wp2
  go_ret
  exact ⟨rfl, rfl⟩
theorem new_some (n : Nat) (h1 : 1 ≤ n) (h2 : n ≤ 2048) (w : World) :
    Calls Try.prog 16 #[.int .i64 n] w fun e w' => e = .returned (.pointer (some ⟨w.heap.size + 2, 0, none⟩)) ∧ DAt w' (w.heap.size + 2) (Dsk.new n) (Loc.new w.heap.size) 0 ∧ Below w.heap.size w w' := by
  refine (new_walk n h1 h2 w).mono ?_
  rintro e w' ⟨rfl, rfl⟩
  exact ⟨rfl, new_at w n h1 h2, (((Below.refl _ _).alloc (Nat.le_refl _) _).alloc (by simp) _).alloc (by simp; omega) _⟩
theorem new_foot (k j : Nat) (h : foot (k + 2) (Loc.new k) j) : k ≤ j := by
  rcases h with rfl | rfl | rfl | e | e
  · omega
  · exact Nat.le_refl _
  · simp [Loc.new]
  · simp [Loc.new, Value.ownBlock] at e
  · simp [Loc.new] at e

/-- The block of which each byte hangs on a number. -/
def filled (b : Int) : List Int := fl 256 fun j => (b + (j / 64 : Nat)) % 256
theorem filled_length (b : Int) : (filled b).length = 256 := fl_length _ _
theorem filled_bytes (b : Int) : Bytes (filled b) := fl_bytes _ _ fun j _ => by omega
end Go.Proofs.Ytcbjjofckhohjaa
