/-
  Plain facts on the statement's arguments: a list of blocks as a value that came in.
-/
import Derived.Test.YtgnedbagelhcbaaLop
namespace Go.Proofs.Ytgnedbagelhcbaa
open Go.ChangeShapes Go.WideShapes Go.ChangeAt Go.RowKit
open Go.Deep
set_option linter.unusedVariables false
set_option linter.unusedSimpArgs false
set_option maxRecDepth 20000

/-- A slice that holds n blocks. -/
def Blks (w : World) (v : Value) (n : Nat) (B : Nat → List Int) : Prop := (v = .slice none 0 0 ∧ n = 0) ∨ ∃ a cap, v = .slice (some a) n cap ∧ ∀ i, i < n → ∀ j u, ((B i).map (Value.int .u8))[j]? = some u → w.cell? ((a.add (i * 256)).add j) = some u
theorem Blks.form {w : World} {v : Value} {n : Nat} {B : Nat → List Int} (h : Blks w v n B) : ∃ oa cap, v = .slice oa n cap ∧ ∀ i, i < n → ∃ a, oa = some a ∧ ∀ j u, ((B i).map (Value.int .u8))[j]? = some u → w.cell? ((a.add (i * 256)).add j) = some u := by
  rcases h with ⟨rfl, rfl⟩ | ⟨a, cap, rfl, h⟩
  · exact ⟨none, 0, rfl, fun i hi => by omega⟩
  · exact ⟨some a, cap, rfl, fun i hi => ⟨a, rfl, h i hi⟩⟩
section
variable {H : Type} {enc : TypeId × Value → H}
theorem bytes56 : Try.prog.bytesOf 56 = 256 := by kernel_rfl
theorem open_blocks {w : World} {base : Nat} {v : Value} {d : DataW H} {p : List MemPlace} (hv : Value.okWide Try.prog w .any base 60 v) (h : DataW.Trod enc Try.prog w 0 (fun _ => true) true 60 v d p) (hs : (d.weights Try.prog 60).all (· ≤ reachBytes) = true) :
    ∃ (n : Nat) (B : Nat → List Int), Blks w v n B ∧ (∀ i, (B i).length = 256 ∧ Bytes (B i)) ∧ n ≤ 140737488355328 := by
  obtain ⟨fuel, hf⟩ := h
  obtain ⟨av, lv, cv, rfl⟩ := okWide_slice Try.underlying60 hv
  rcases open_slice Try.underlying60 hf with ⟨q, _⟩ | ⟨a, len, cap, m, n, D, Pl, q, _, hle, _, hm, hx, hel⟩
  · have q' : Value.slice av lv cv = .slice none 0 0 := by simpa [Value.cells] using q
    exact ⟨0, fun _ => zs 256, Or.inl ⟨q', rfl⟩, fun _ => ⟨zs_length _, zs_bytes _⟩, by omega⟩
  · have q' : Value.slice av lv cv = .slice (some a) len cap := by simpa [Value.cells] using q
    rw [q']
    simp only [if_true] at hm
    have hc : ∀ i, ∃ ys : List Int, (ys.length = 256 ∧ Bytes ys) ∧ (i < len → ∀ j u, (ys.map (Value.int .u8))[j]? = some u → w.cell? ((a.add (i * 256)).add j) = some u) := fun i => by
      by_cases hi : i < len
      · obtain ⟨cs', h1, h2⟩ := hel i (by omega)
        rw [cells56] at h1
        obtain ⟨_, hl6, hcell⟩ := World.cells?_some h1
        obtain ⟨ys, rfl, hl, hb⟩ := open_list Try.underlying56 Try.underlying5 cells5 hl6 h2
        refine ⟨ys, ⟨hl, hb⟩, fun _ j u hj => ?_⟩
        have hj6 : j < 256 := by
          have := (List.getElem?_eq_some_iff.1 hj).1
          rw [List.length_map, hl] at this; exact this
        rw [hcell j hj6]; exact hj
      · exact ⟨zs 256, ⟨zs_length _, zs_bytes _⟩, fun q => absurd q hi⟩
    obtain ⟨f, hf'⟩ := Classical.axiomOfChoice hc
    refine ⟨len, f, Or.inr ⟨a, cap, rfl, fun i hi => (hf' i).2 hi⟩, fun i => (hf' i).1, ?_⟩
    have hd : d = .slice ((List.range len).map D) ((List.range (m - len)).map fun j => D (len + j)) := congrArg Prod.fst hx
    rw [hd] at hs
    simp [DataW.weights, Try.underlying60, bytes56] at hs
    have := hs.1
    unfold reachBytes at this
    omega
end
end Go.Proofs.Ytgnedbagelhcbaa
