/-
  Proved here: what Live of an oracle answers; plain facts on the horizon.
-/
import Derived.Test.YtmnbfcmamhinbaaOrd
import Derived.Test.YtmnbfcmamhinbaaRis
namespace Go.Proofs.Ytmnbfcmamhinbaa
open Go.ChangeShapes Go.WideShapes Go.ChangeAt Go.RowKit
open Go.Deep Go.Maps
set_option linter.unusedVariables false
set_option linter.unusedSimpArgs false


/-- What Live leaves. -/
def Lived (w : World) (L : List (Int × Int)) (e : Ending) (w' : World) : Prop := S8.Rose w (L.map Prod.fst) e w'
theorem hasL_mem (L : List (Int × Int)) (x : Int) : hasL L x = true ↔ x ∈ L.map Prod.fst := by
  unfold hasL
  simp [List.any_eq_true]
theorem live_any {w : World} {g m : Nat} {last max begun : Int} {L : List (Int × Int)} (c : OAt w g m last max begun L) : Calls Try.prog 22 #[.pointer (some ⟨g, 0, none⟩)] w fun e w' => ∃ a cap cur, e = .returned (.slice (some ⟨a, 0, none⟩) L.length cap) ∧ S8.UAt w' a cur (L.map Prod.fst) ∧ Below w.heap.size w w' ∧ w.heap.size ≤ a := by
  have hr := S8.rising_any c.own (L.map Prod.fst) (by rw [List.pairwise_map]; exact c.rising) (fun x => by rw [liveD_has]; exact hasL_mem L x) (by rw [liveD_size]; simp) (by have := c.small; simp; omega)
  have c3 := row_at c.row 3 _ rfl
  obtain ⟨PP, HPP⟩ : ∃ PP : Ending → World → Prop, Hid (PP = fun e w' => ∃ a cap cur, e = .returned (.slice (some ⟨a, 0, none⟩) L.length cap) ∧ S8.UAt w' a cur (L.map Prod.fst) ∧ Below w.heap.size w w' ∧ w.heap.size ≤ a) := ⟨_, rfl⟩
  have HQ : Hid (∀ e w', S8.Rose w (L.map Prod.fst) e w' → ∃ v, e = .returned v ∧ PP (.returned v) w') := fun e w' q => by
    obtain ⟨a, cap, cur, he, h1, h2, h3⟩ := q
    rw [List.length_map] at he
    exact ⟨_, he, by rw [HPP.out]; exact ⟨a, cap, cur, rfl, h2, h3, h1⟩⟩
  rw [← HPP.out]
  clear HPP
  go_enter Try.func22, Try.ntmps22
  go_wp2_with (go_at_call 36; refine hr.mono ?_; clear hr; intro e w2 hq; obtain ⟨v, he, hq2⟩ := HQ.out _ _ hq; obtain rfl := he; clear hq)
  try go_ret
  exact hq2
theorem live_at {L : List (Int × Int)} (hr : L.Pairwise fun p q => p.1 < q.1) {x s : Int} (hm : (x, s) ∈ L) : startL L x = s ∧ hasL L x = true := by
  have hh : hasL L x = true := List.any_eq_true.2 ⟨_, hm, by simp⟩
  refine ⟨?_, hh⟩
  unfold startL
  have hs : (L.find? fun p => decide (p.1 = x)).isSome = true := List.find?_isSome.2 ⟨_, hm, by simp⟩
  obtain ⟨y, hy⟩ := Option.isSome_iff_exists.1 hs
  rw [hy]
  have h1 := List.find?_some hy
  have h2 := List.mem_of_find?_eq_some hy
  simp at h1
  have := mem_one hr h2 hm h1
  rw [this]
theorem horL_mono {last last' : Int} {L L' : List (Int × Int)} (h : last ≤ last') (hm : ∀ p ∈ L', p ∈ L ∨ last ≤ p.2) : horL last L ≤ horL last' L' := by
  obtain ⟨k1, k2, k3⟩ := horL_le last L
  obtain ⟨j1, j2, j3⟩ := horL_le last' L'
  rcases j3 with j3 | ⟨p, hp, j3⟩
  · omega
  · rcases hm p hp with q | q
    · have := k2 p q; omega
    · omega
theorem doO_mono (k n max : Int) (s : Int × Int × List (Int × Int)) : s.1 ≤ (doO k n max s).1 ∧ horL s.1 s.2.2 ≤ horL (doO k n max s).1 (doO k n max s).2.2 ∧ (doO k n max s).2.1 ≤ s.2.1 + 1 := by
  have refl : s.1 ≤ s.1 ∧ horL s.1 s.2.2 ≤ horL s.1 s.2.2 ∧ s.2.1 ≤ s.2.1 + 1 := ⟨Int.le_refl _, Int.le_refl _, by omega⟩
  unfold doO
  split
  · split
    · refine ⟨Int.le_refl _, horL_mono (Int.le_refl _) fun p hp => ?_, by simp⟩
      rcases List.mem_append.1 hp with q | q
      · exact Or.inl q
      · right
        simp at q
        rw [q]
        exact Int.le_refl _
    · exact refl
  · split
    · exact ⟨Int.le_refl _, horL_mono (Int.le_refl _) fun p hp => Or.inl (List.mem_filter.1 hp).1, by simp; omega⟩
    · split
      · split
        · exact ⟨by simp; omega, horL_mono (by simp; omega) fun p hp => Or.inl hp, by simp; omega⟩
        · exact refl
      · split
        · split
          · exact refl
          · exact ⟨by simp; omega, horL_mono (by simp; omega) fun p hp => Or.inl hp, by simp; omega⟩
        · exact refl
end Go.Proofs.Ytmnbfcmamhinbaa
