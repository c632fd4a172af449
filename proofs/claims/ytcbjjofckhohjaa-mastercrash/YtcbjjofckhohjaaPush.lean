/-
  Proved here: a round of disk.Write: one sector is laidD over the fresh ones, and stands behind the pending ones.
-/
import Derived.Test.YtcbjjofckhohjaaStep
namespace Go.Proofs.Ytcbjjofckhohjaa
open Go.ChangeShapes Go.WideShapes Go.ChangeAt Go.RowKit
set_option linter.unusedVariables false
set_option linter.unusedSimpArgs false
set_option maxRecDepth 20000

theorem row_drew {w : World} {g : Nat} {cs : Array Value} {t : TypeId} (h : Row w g cs t) : Row w.drew g cs t := h
theorem pcell_length (b s : Int) (xs : List Int) (h : xs.length = 64) : (pcell (b, s, xs)).length = 66 := by simp [pcell, h]
theorem range_all {w : World} {g : Nat} {b s : Int} {xs : List Int} {t : TypeId} (h : Row w g (wcells b s xs) t) : w.rangeAt g 0 (pcell (b, s, xs)) := by
  intro j v hv
  rw [cell_of_row w g _ _ _ _ h, Nat.zero_add]
  simpa [wcells] using hv
/-- A disk with one write more. -/
def Dsk.push (d : Dsk) (q : Int × Int × List Int) : Dsk := { d with pend := d.pend ++ [q] }
theorem DAt.push {w w' : World} {g : Nat} {d : Dsk} {L : Loc} {N : Nat} (h : DAt w g d L N) (q : Int × Int × List Int) (hq : 0 ≤ q.1 ∧ q.1 < d.n ∧ 0 ≤ q.2.1 ∧ q.2.1 < 4 ∧ Sec q.2.2) (p' : Value) (hN : N + 1 < 1000000000000)
    (row : Row w' g (dcells d { L with p := p' }) 76) (fresh : SMap w' L.b (d.pend.length + 1) ((over (fun _ _ => none) d.pend).put q.1 q.2.1 q.2.2))
    (pend : w'.ownsRow (g + 1) 84 66 p' (d.pend ++ [q]).length (pcells (d.pend ++ [q]))) (ha : w'.heap[L.a]? = w.heap[L.a]?) (hf : ∀ m, L.f = .map (some m) → w'.heap[m]? = w.heap[m]?) : DAt w' g (d.push q) { L with p := p' } (N + 1) where
  row := row
  sure := by
    obtain ⟨s, hs, hle⟩ := h.sure
    exact ⟨s, hs.kept ha, by simp [Dsk.push]; omega⟩
  fresh := by
    have e : over (fun _ _ => none) (d.pend ++ [q]) = (over (fun _ _ => none) d.pend).put q.1 q.2.1 q.2.2 := by rw [over_append]; rfl
    show SMap w' L.b (d.pend ++ [q]).length (over (fun _ _ => none) (d.pend ++ [q]))
    rw [e, List.length_append]; exact fresh
  ab := h.ab
  pend := pend
  fails := h.fails.kept fun m e _ => hf m e
  fa := h.fa
  fb := h.fb
  big := hN
  okp := by
    intro r hr
    rcases List.mem_append.1 hr with hr | hr
    · exact h.okp r hr
    · simp at hr; subst hr; exact hq
  small := h.small
  opsn := h.opsn
  fusew := h.fusew

theorem DAt.pf {w : World} {g : Nat} {d : Dsk} {L : Loc} {N : Nat} (h : DAt w g d L N) {m : Nat} (e : L.f = .map (some m)) : L.p.ownBlock ≠ some m ∧ m < w.heap.size := by
  rcases h.fails with ⟨q, _⟩ | ⟨m', n, D, q, hD, _⟩
  · rw [q] at e; cases e
  · rw [q] at e; cases e
    have hl := hD.lt
    obtain ⟨es, clock, hb, _⟩ := hD
    exact ⟨h.pm hb, hl⟩
/-- What lies there behind a round of Write. -/
theorem write_after {w w3 w4 w6 : World} {g : Nat} {d : Dsk} {L : Loc} {N : Nat} {F0 : Nat → Prop} (D3 : DAt w3 g d L N) (q : Int × Int × List Int) (hq : 0 ≤ q.1 ∧ q.1 < d.n ∧ 0 ≤ q.2.1 ∧ q.2.1 < 4 ∧ Sec q.2.2) (hN : N + 1 < 1000000000000)
    (g4 : w3.grownBy w4 (some L.b)) (m4 : SMap w4 L.b (d.pend.length + 1) ((over (fun _ _ => none) d.pend).put q.1 q.2.1 q.2.2)) (p' : Value)
    (hp6 : w6.ownsRow (g + 1) 84 66 p' (d.pend ++ [q]).length (pcells (d.pend ++ [q]))) (hg6 : (w4.drew.alloc (.cells (pcell q).toArray 84)).grownBy w6 L.p.ownBlock) (hl6 : p'.ownBlock = L.p.ownBlock ∨ p'.ownBlock = some (w4.drew.alloc (.cells (pcell q).toArray 84)).heap.size)
    (X Y : Nat) (x : List Int) (cY : Array Value) (rX : Row w3 X (bs x) 29) (rY : Row w3 Y cY 84) (hY : ¬ foot g L Y) (hX : ¬ foot g L X) (O3 : Off F0 w w3) (HF : ∀ j, foot g L j → F0 j ∨ w.heap.size ≤ j) :
    w6.cell? ⟨g, 3, none⟩ = some L.p ∧ w6.frozen? ⟨g, 3, none⟩ = false ∧ Row w6 Y cY 84 ∧ DAt (w6.setCell ⟨g, 3, none⟩ p') g (d.push q) { L with p := p' } (N + 1) ∧ Row (w6.setCell ⟨g, 3, none⟩ p') X (bs x) 29 ∧
      Off F0 w (w6.setCell ⟨g, 3, none⟩ p') ∧ (∀ j, foot g { L with p := p' } j → F0 j ∨ w.heap.size ≤ j) := by
  have h36 : ∀ j, j < w3.heap.size → j ≠ L.b → L.p.ownBlock ≠ some j → w6.heap[j]? = w3.heap[j]? := fun j hj hb hp => by
    have hj4 : j < w4.heap.size := Nat.lt_of_lt_of_le hj g4.size
    rw [hg6.block j (by simp; omega) (fun e => hp e.symm), Below.heap_alloc _ _ _ (show j < w4.drew.heap.size from hj4)]
    exact g4.block j hj (fun e => hb (by cases e; rfl))
  have h37 : ∀ j, j < w3.heap.size → j ≠ L.b → L.p.ownBlock ≠ some j → j ≠ g → (w6.setCell ⟨g, 3, none⟩ p').heap[j]? = w3.heap[j]? := fun j hj hb hp hg => by
    rw [Below.heap_setCell _ _ _ _ hg]; exact h36 j hj hb hp
  have hbl : L.b < w3.heap.size := D3.fresh.lt
  have hal : L.a < w3.heap.size := D3.lt (Or.inr (Or.inl rfl))
  have row6 : Row w6 g (dcells d L) 76 := by
    have := D3.row
    unfold Row at this ⊢
    rw [h36 g D3.row.lt D3.bg.symm D3.pg]; exact this
  have r6Y : Row w6 Y cY 84 := by
    have := rY
    unfold Row at this ⊢
    rw [h36 Y rY.lt (fun e => hY (Or.inr (Or.inr (Or.inl e)))) (fun e => hY (Or.inr (Or.inr (Or.inr (Or.inl e)))))]; exact this
  have r7X : Row (w6.setCell ⟨g, 3, none⟩ p') X (bs x) 29 := by
    have := rX
    unfold Row at this ⊢
    rw [h37 X rX.lt (fun e => hX (Or.inr (Or.inr (Or.inl e)))) (fun e => hX (Or.inr (Or.inr (Or.inr (Or.inl e))))) (fun e => hX (Or.inl e))]; exact this
  have hs6 : w3.heap.size ≤ w6.heap.size := by
    have := hg6.size
    simp at this
    have := g4.size
    omega
  refine ⟨row_at row6 3 L.p rfl, row_frozen row6 3, r6Y, D3.push q hq p' hN (row_set row6 3 p') ?_ ?_ ?_ ?_, r7X, ?_, ?_⟩
  · refine m4.kept ?_
    rw [Below.heap_setCell _ _ _ _ D3.bg, hg6.block L.b (by simp; have := m4.lt; omega) (fun e => D3.pb e.symm), Below.heap_alloc _ _ _ (show L.b < w4.drew.heap.size from m4.lt)]; rfl
  · exact ownsRow_kept hp6 fun j e _ => Below.heap_setCell _ _ _ _ (fun e2 => by have := (hp6.lt j e).1; simp at e2; omega)
  · exact h37 L.a hal D3.ab D3.pa D3.ag
  · intro m e
    obtain ⟨h1, h2⟩ := D3.pf e
    exact h37 m h2 (fun e2 => D3.fb (e2 ▸ e)) h1 (fun e2 => D3.fg (e2 ▸ e))
  · refine ⟨?_, ?_, ?_, Nat.le_trans O3.size (by simpa [World.setCell] using hs6), fun j hj hn => ?_⟩
    · exact (hg6.os.trans g4.os).trans O3.os
    · exact (hg6.tape.trans g4.tape).trans O3.tape
    · exact (hg6.output.trans g4.output).trans O3.output
    · have nf : ¬ foot g L j := fun q => by
        rcases HF j q with q | q
        · exact hn q
        · omega
      rw [h37 j (Nat.lt_of_lt_of_le hj O3.size) (fun e => nf (Or.inr (Or.inr (Or.inl e)))) (fun e => nf (Or.inr (Or.inr (Or.inr (Or.inl e))))) (fun e => nf (Or.inl e))]
      exact O3.block j hj hn
  · rintro j (rfl | rfl | rfl | e | e)
    · exact HF _ (Or.inl rfl)
    · exact HF _ (Or.inr (Or.inl rfl))
    · exact HF _ (Or.inr (Or.inr (Or.inl rfl)))
    · rcases hl6 with q | q
      · exact HF _ (Or.inr (Or.inr (Or.inr (Or.inl (q ▸ e)))))
      · right
        have e' : p'.ownBlock = some j := e
        rw [q] at e'
        cases e'
        simp
        have := g4.size
        have := O3.size
        omega
    · exact HF _ (Or.inr (Or.inr (Or.inr (Or.inr e))))
end Go.Proofs.Ytcbjjofckhohjaa
