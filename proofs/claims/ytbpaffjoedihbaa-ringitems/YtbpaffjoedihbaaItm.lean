/-
  Plain facts on the framed texts of a stream: which frame a stream begins with, all whole frames with which it begins, and where they end.
-/
import Derived.Test.YtbpaffjoedihbaaFrame
import Derived.Test.YtbpaffjoedihbaaItl
namespace Go.Proofs.Ytbpaffjoedihbaa
open Go.ChangeShapes Go.WideShapes Go.ChangeAt Go.RowKit
set_option linter.unusedVariables false
set_option linter.unusedSimpArgs false

/-- The length that stands at a stream's head. -/
def frN (s : ByteArray) : Nat := (getN s 0 2).toNat
theorem frN_cast (s : ByteArray) : ((frN s : Nat) : Int) = getN s 0 2 := by
  have := (getN_fits s 0 2).1
  unfold frN; omega
theorem frN_le (s : ByteArray) : frN s ≤ 65535 := by
  have h := (getN_fits s 0 2).2
  have h0 := (getN_fits s 0 2).1
  have e : (2 : Int) ^ (8 * 2) = 65536 := by decide
  unfold frN; rw [e] at h; omega
def frX (s : ByteArray) : ByteArray := s.extract 6 (6 + frN s)
def frH (s : ByteArray) : ByteArray := s.extract 0 (6 + frN s)
def frR (s : ByteArray) : ByteArray := s.extract (6 + frN s) s.size
/-- Whether a stream begins with a frame. -/
def isF (s : ByteArray) : Bool := decide (6 + frN s ≤ s.size) && decide (frS (frX s) = frH s)
theorem isF_size {s : ByteArray} (h : isF s = true) : 6 + frN s ≤ s.size := by
  unfold isF at h; simp at h; exact h.1
theorem isF_eq {s : ByteArray} (h : isF s = true) : frS (frX s) = frH s := by
  unfold isF at h; simp at h; exact h.2
theorem frX_size {s : ByteArray} (h : 6 + frN s ≤ s.size) : (frX s).size = frN s := by
  unfold frX; rw [ByteArray.size_extract]; omega
theorem frH_size {s : ByteArray} (h : 6 + frN s ≤ s.size) : (frH s).size = 6 + frN s := by
  unfold frH; rw [ByteArray.size_extract]; omega
theorem frR_size {s : ByteArray} (h : 6 + frN s ≤ s.size) : (frR s).size = s.size - (6 + frN s) := by
  unfold frR; rw [ByteArray.size_extract]; omega
theorem isF_fits {s : ByteArray} (h : isF s = true) : 1 ≤ frN s ∧ frN s ≤ 400 := by
  have h1 := isF_size h
  have h2 := isF_eq h
  have h3 := frX_size h1
  have h4 := frH_size h1
  by_cases q : okF (frX s) = true
  · unfold okF at q; simp only [decide_eq_true_eq] at q; omega
  · exfalso
    have e : frS (frX s) = { data := #[] } := by unfold frS; rw [if_neg q]
    rw [e] at h2
    rw [← h2] at h4
    have : ({ data := #[] } : ByteArray).size = 0 := rfl
    omega
/-- The texts of the whole frames with which a stream begins. -/
def tx (s : ByteArray) : List ByteArray := if h : isF s = true then frX s :: tx (frR s) else []
termination_by s.size
decreasing_by
  have h1 := isF_size h
  rw [frR_size h1]; omega
theorem tx_yes {s : ByteArray} (h : isF s = true) : tx s = frX s :: tx (frR s) := by rw [tx, dif_pos h]
theorem tx_no {s : ByteArray} (h : isF s = false) : tx s = [] := by rw [tx, dif_neg (by simp [h])]
/-- Items at their places, and where they end. -/
def lsns (p : Int) : List ByteArray → List It.O
  | [] => []
  | t :: r => ⟨p, t⟩ :: lsns (p + 6 + t.size) r
def endOf (p : Int) : List ByteArray → Int
  | [] => p
  | t :: r => endOf (p + 6 + t.size) r
theorem lsns_length : ∀ (p : Int) (l : List ByteArray), (lsns p l).length = l.length
  | _, [] => rfl
  | p, t :: r => by simp [lsns, lsns_length]
theorem lsns_snoc : ∀ (p : Int) (l : List ByteArray) (t : ByteArray), lsns p (l ++ [t]) = lsns p l ++ [⟨endOf p l, t⟩]
  | _, [], _ => rfl
  | p, a :: r, t => by simp [lsns, endOf, lsns_snoc]
theorem endOf_snoc : ∀ (p : Int) (l : List ByteArray) (t : ByteArray), endOf p (l ++ [t]) = endOf p l + 6 + t.size
  | _, [], _ => rfl
  | p, a :: r, t => by simp [endOf, endOf_snoc]
theorem endOf_ge : ∀ (p : Int) (l : List ByteArray), p ≤ endOf p l
  | p, [] => Int.le_refl _
  | p, a :: r => by have := endOf_ge (p + 6 + a.size) r; simp only [endOf]; omega
theorem endOf_le : ∀ (p : Int) (l : List ByteArray), (∀ t ∈ l, t.size ≤ 400) → endOf p l ≤ p + 406 * l.length
  | p, [], _ => by simp [endOf]
  | p, a :: r, h => by
    have h1 := endOf_le (p + 6 + a.size) r (fun t ht => h t (by simp [ht]))
    have h2 := h a (by simp)
    simp only [endOf, List.length_cons]; omega
theorem tx_fits (s : ByteArray) : (∀ t ∈ tx s, 1 ≤ t.size ∧ t.size ≤ 400) ∧ (∀ p, endOf p (tx s) ≤ p + s.size) ∧ 7 * (tx s).length ≤ s.size := by
  by_cases h : isF s = true
  · have h1 := isF_size h
    have h2 := isF_fits h
    have h3 := frX_size h1
    have h4 := frR_size h1
    have ih := tx_fits (frR s)
    rw [tx_yes h]
    refine ⟨?_, ?_, ?_⟩
    · intro t ht
      rcases List.mem_cons.1 ht with rfl | ht
      · omega
      · exact ih.1 t ht
    · intro p
      have := ih.2.1 (p + 6 + (frX s).size)
      simp only [endOf]; omega
    · have := ih.2.2
      simp only [List.length_cons]; omega
  · rw [tx_no (by simpa using h)]
    exact ⟨fun t ht => absurd ht (by simp), (fun p => by simp only [endOf]; omega), by simp⟩
termination_by s.size
decreasing_by
  rw [h4]; omega
/-- What Items tells. -/
def hasP (base : Int) (s : ByteArray) (p : Int) : Bool := decide (base ≤ p ∧ p - base ≤ (s.size : Int))
def itS (base : Int) (s : ByteArray) (p : Int) : ByteArray := s.extract (p - base).toNat s.size
def itL (base : Int) (s : ByteArray) (p : Int) : List It.O := if hasP base s p then lsns p (tx (itS base s p)) else []
def itE (base : Int) (s : ByteArray) (p : Int) : Int := if hasP base s p then endOf p (tx (itS base s p)) else p
/-- Behind Items. -/
def Itemed (w : World) (base : Int) (s : ByteArray) (p : Int) (ex : Ending) (w' : World) : Prop :=
  ∃ v', ex = .returned (.tuple #[v', .int .u64 (itE base s p)]) ∧ It.Own w' w.heap.size v' (itL base s p) ∧ Below w.heap.size w w'
end Go.Proofs.Ytbpaffjoedihbaa
