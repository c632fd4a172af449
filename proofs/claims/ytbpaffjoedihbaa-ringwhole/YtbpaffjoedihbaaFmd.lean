/-
  Proved here: ring.framed: the text of the frame with which a stream begins.
-/
import Derived.Test.YtbpaffjoedihbaaItm
namespace Go.Proofs.Ytbpaffjoedihbaa
open Go.ChangeShapes Go.WideShapes Go.ChangeAt Go.RowKit
set_option linter.unusedVariables false
set_option linter.unusedSimpArgs false

def gotF (s : ByteArray) : ByteArray := if isF s then frX s else { data := #[] }
set_option maxRecDepth 20000 in
set_option maxHeartbeats 2000000 in
theorem framed_any (s : ByteArray) (w : World) (hs : s.size ≤ maxLen) :
    Calls Try.prog 42 #[.string s] w fun ex w' => ex = .returned (.tuple #[.string (gotF s), .bool (isF s)]) ∧ Below w.heap.size w w' := by
  have HG : Hid _ := get_all s 0 2 hs (by decide) (by decide)
  rw [← frN_cast s] at HG
  have hN := frN_le s
  have HFR : Hid (∀ w, Calls Try.prog 16 #[.string (frX s)] w fun ex w' => ex = .returned (.string (frS (frX s))) ∧ Below w.heap.size w w') := fun w => frame_any (frX s) w (by unfold frX; rw [ByteArray.size_extract]; unfold maxLen at *; omega)
  unfold maxLen at hs
  have HX : Hid (s.extract 6 (6 + frN s) = frX s) := rfl
  have HH : Hid (s.extract 0 (6 + frN s) = frH s) := rfl
  have HIF : Hid (isF s = (decide (6 + frN s ≤ s.size) && decide (frS (frX s) = frH s))) := rfl
  have HGO : Hid (gotF s = if isF s then frX s else { data := #[] }) := rfl
  generalize frN s = N at HG hN HX HH HIF
  by_cases h1 : 6 + N ≤ s.size
  · have h1' : ¬ (6 + (N : Int)) > (s.size : Int) := by omega
    have ex : (6 + (N : Int)).toNat = 6 + N := by omega
    have hn0 : ¬ (6 + (N : Int)) < 0 := by omega
    rw [decide_eq_true h1] at HIF
    by_cases h2 : frS (frX s) = frH s
    · rw [decide_eq_true h2] at HIF
      have HI : Hid (isF s = true) := by show _ = _; rw [HIF.out]; rfl
      rw [HI.out, if_pos rfl] at HGO
      rw [HGO.out, HI.out]
      generalize frX s = X at HX HFR h2 ⊢
      generalize frH s = H at HH h2
      rw [h2] at HFR
      obtain ⟨hx, hh⟩ := And.intro HX.out HH.out
      have hb := (Below.refl w.heap.size w)
      go_enter Try.func42, Try.ntmps42
      go_upto_region 6 with (go_at_call 30; refine (HG.out _).mono ?_; clear HG; rintro e w1 ⟨rfl, rfl⟩)
      refine wp_region_held_drew (S := fun w' => Below w1.heap.size w1 w') (by kernel_rfl) hb.drew fun hS => ?_
      refine wpAnyH_take (i := 0) (v := .string X) rfl (by kernel_rfl) (by kernel_rfl) (by kernel_rfl) (fun _ _ _ h => h) (Or.inl ⟨by rfl, fun w _ => by go_simp⟩) hS ?_
      try simp only [Act.put, List.getElem_toArray, List.getElem_cons_zero, List.getElem_cons_succ, List.setIfInBounds_toArray, List.set_cons_zero, List.set_cons_succ]
      refine wpAnyH_take (i := 2) (v := .string s) rfl (by kernel_rfl) (by kernel_rfl) (by kernel_rfl) (fun _ _ _ h => h) (Or.inl ⟨by rfl, fun w _ => by go_simp⟩) hS ?_
      try simp only [Act.put, List.getElem_toArray, List.getElem_cons_zero, List.getElem_cons_succ, List.setIfInBounds_toArray, List.set_cons_zero, List.set_cons_succ]
      refine wpAnyH_take (i := 3) (v := .int .i64 (6 + (N : Int))) rfl (by kernel_rfl) (by kernel_rfl) (by kernel_rfl) (fun _ _ _ h => h) (Or.inl ⟨by rfl, fun w _ => by go_simp⟩) hS ?_
      try simp only [Act.put, List.getElem_toArray, List.getElem_cons_zero, List.getElem_cons_succ, List.setIfInBounds_toArray, List.set_cons_zero, List.set_cons_succ]
      refine wpAnyH_take (i := 4) (v := .string H) rfl (by kernel_rfl) (by kernel_rfl) (by kernel_rfl) (fun _ _ _ h => h) (Or.inl ⟨by rfl, fun w _ => by go_simp⟩) hS ?_
      try simp only [Act.put, List.getElem_toArray, List.getElem_cons_zero, List.getElem_cons_succ, List.setIfInBounds_toArray, List.set_cons_zero, List.set_cons_succ]
      refine wpAnyH_ready (rs := [1]) (by kernel_rfl) (by simp) ?_
      refine AllReadyH.cons rfl (fun K hK => ?_) AllReadyH.nil
      go_simp
      go_at_call 16
      refine Calls.mono (HFR.out _) ?_
      rintro e wc ⟨rfl, hcb⟩
      refine hK.out _ _ (hS.trans (hcb.mono hS.size)) fun hS => ?_
      try simp only [Act.put, List.getElem_toArray, List.getElem_cons_zero, List.getElem_cons_succ, List.setIfInBounds_toArray, List.set_cons_zero, List.set_cons_succ]
      clear hcb
      refine wpAnyH_take (i := 5) (v := .bool false) rfl (by kernel_rfl) (by kernel_rfl) (by kernel_rfl) (fun _ _ _ h => h) (Or.inl ⟨by rfl, fun w _ => by go_simp⟩) hS ?_
      try simp only [Act.put, List.getElem_toArray, List.getElem_cons_zero, List.getElem_cons_succ, List.setIfInBounds_toArray, List.set_cons_zero, List.set_cons_succ]
      refine wpAnyH_done (by kernel_rfl) ?_ _
      go_wp2
      go_ret2
      exact ⟨rfl, hS⟩
    · rw [decide_eq_false h2] at HIF
      have HI : Hid (isF s = false) := by show _ = _; rw [HIF.out]; rfl
      rw [HI.out, if_neg (by simp)] at HGO
      rw [HGO.out, HI.out]
      generalize frX s = X at HX HFR h2
      generalize frH s = H at HH h2
      generalize frS X = F at HFR h2
      obtain ⟨hx, hh⟩ := And.intro HX.out HH.out
      have h2' : ¬ F.toList = H.toList := fun q => h2 (bytes_inj q)
      have hb := (Below.refl w.heap.size w)
      go_enter Try.func42, Try.ntmps42
      go_upto_region 6 with (go_at_call 30; refine (HG.out _).mono ?_; clear HG; rintro e w1 ⟨rfl, rfl⟩)
      refine wp_region_held_drew (S := fun w' => Below w1.heap.size w1 w') (by kernel_rfl) hb.drew fun hS => ?_
      refine wpAnyH_take (i := 0) (v := .string X) rfl (by kernel_rfl) (by kernel_rfl) (by kernel_rfl) (fun _ _ _ h => h) (Or.inl ⟨by rfl, fun w _ => by go_simp⟩) hS ?_
      try simp only [Act.put, List.getElem_toArray, List.getElem_cons_zero, List.getElem_cons_succ, List.setIfInBounds_toArray, List.set_cons_zero, List.set_cons_succ]
      refine wpAnyH_take (i := 2) (v := .string s) rfl (by kernel_rfl) (by kernel_rfl) (by kernel_rfl) (fun _ _ _ h => h) (Or.inl ⟨by rfl, fun w _ => by go_simp⟩) hS ?_
      try simp only [Act.put, List.getElem_toArray, List.getElem_cons_zero, List.getElem_cons_succ, List.setIfInBounds_toArray, List.set_cons_zero, List.set_cons_succ]
      refine wpAnyH_take (i := 3) (v := .int .i64 (6 + (N : Int))) rfl (by kernel_rfl) (by kernel_rfl) (by kernel_rfl) (fun _ _ _ h => h) (Or.inl ⟨by rfl, fun w _ => by go_simp⟩) hS ?_
      try simp only [Act.put, List.getElem_toArray, List.getElem_cons_zero, List.getElem_cons_succ, List.setIfInBounds_toArray, List.set_cons_zero, List.set_cons_succ]
      refine wpAnyH_take (i := 4) (v := .string H) rfl (by kernel_rfl) (by kernel_rfl) (by kernel_rfl) (fun _ _ _ h => h) (Or.inl ⟨by rfl, fun w _ => by go_simp⟩) hS ?_
      try simp only [Act.put, List.getElem_toArray, List.getElem_cons_zero, List.getElem_cons_succ, List.setIfInBounds_toArray, List.set_cons_zero, List.set_cons_succ]
      refine wpAnyH_ready (rs := [1]) (by kernel_rfl) (by simp) ?_
      refine AllReadyH.cons rfl (fun K hK => ?_) AllReadyH.nil
      go_simp
      go_at_call 16
      refine Calls.mono (HFR.out _) ?_
      rintro e wc ⟨rfl, hcb⟩
      refine hK.out _ _ (hS.trans (hcb.mono hS.size)) fun hS => ?_
      try simp only [Act.put, List.getElem_toArray, List.getElem_cons_zero, List.getElem_cons_succ, List.setIfInBounds_toArray, List.set_cons_zero, List.set_cons_succ]
      clear hcb
      refine wpAnyH_take (i := 5) (v := .bool true) rfl (by kernel_rfl) (by kernel_rfl) (by kernel_rfl) (fun _ _ _ h => h) (Or.inl ⟨by rfl, fun w _ => by go_simp⟩) hS ?_
      try simp only [Act.put, List.getElem_toArray, List.getElem_cons_zero, List.getElem_cons_succ, List.setIfInBounds_toArray, List.set_cons_zero, List.set_cons_succ]
      refine wpAnyH_done (by kernel_rfl) ?_ _
      go_wp2
      go_ret2
      exact ⟨rfl, hS⟩
  · have h1' : (6 + (N : Int)) > (s.size : Int) := by omega
    rw [decide_eq_false h1] at HIF
    have HI : Hid (isF s = false) := by show _ = _; rw [HIF.out]; rfl
    rw [HI.out, if_neg (by simp)] at HGO
    rw [HGO.out, HI.out]
    clear HX HH HFR
    go_enter Try.func42, Try.ntmps42
    go_wp2_with (go_at_call 30; refine (HG.out _).mono ?_; clear HG; rintro e w1 ⟨rfl, rfl⟩)
    go_ret2
    exact ⟨rfl, Below.refl _ _⟩
end Go.Proofs.Ytbpaffjoedihbaa
