/-
  Plain facts for ApplyTorn: behind an image that is right, whatever stood there makes no difference.
-/
import Derived.Test.YtihjapfgllokgabFcu
namespace Go.Proofs.Ytihjapfgllokgab
open Go.ChangeShapes Go.WideShapes Go.ChangeAt Go.RowKit
set_option linter.unusedVariables false
set_option linter.unusedSimpArgs false

/-- A record that holds a page's image. -/
def imgR (u : Bool) (no : Int) (img : List Int) : R := { R.zero with kind := 1, undo := u, no := no, img := img }
theorem imgR_may (u : Bool) (no : Int) (img : List Int) : mayR (imgR u no img) = true := by
  have h1 : ownR (imgR u no img) = imgR u no img := by unfold ownR; rw [if_pos (show (imgR u no img).kind = 1 from rfl)]; rfl
  have h2 : okK (imgR u no img) = true := by unfold okK; simp [imgR]
  unfold mayR
  rw [h1, h2]
  simp [imgR, R.zero, O.zero]
theorem imgR_about (u : Bool) (no : Int) (img : List Int) : aboutR u no (imgR u no img) = true := by simp [aboutR, imgR]
theorem redo_img (u : Bool) (no : Int) (img p : List Int) (l : Int) (hi : isP u no img = true) : (redoR u no p ⟨l, imgR u no img⟩).2 = 0 ∧ redoR u no p ⟨l, imgR u no img⟩ = redoR u no img ⟨l, imgR u no img⟩ := by
  have hk : (imgR u no img).kind = 1 := rfl
  have e1 : ∀ q : List Int, redoR u no q ⟨l, imgR u no img⟩ = if u then redoUR no img ⟨l, imgR u no img⟩ else redoD2 no img ⟨l, imgR u no img⟩ := fun q => by
    unfold redoR
    simp only [imgR_may, imgR_about, Bool.and_self, if_true, hk]
    rfl
  refine ⟨?_, by rw [e1 p, e1 img]⟩
  rw [e1 p]
  cases u with
  | false =>
    have hd : isD no img = true := hi
    simp only [Bool.false_eq_true, if_false]
    unfold redoD2 redoDR
    rw [hd]
    simp [imgR]
  | true =>
    have hu : isU no img = true := hi
    have hm : may (uOf img) = true := by unfold isU at hu; simp at hu; exact hu.1
    have hc : chgO (uOf img) (imgR true no img) = some (uOf img) := by unfold chgO; simp [imgR]
    simp only [if_true]
    unfold redoUR
    rw [hu, if_pos rfl]
    simp only [hc]
    unfold errU; rw [hm]; rfl
theorem step_img (u : Bool) (no : Int) (img p : List Int) (l : Int) (hl : 0 < l) (hi : isP u no img = true) (h : isP u no p = true → lsnOf p ≤ 0) :
    stepR u no (p, isP u no p) ⟨l, imgR u no img⟩ = ((redoR u no img ⟨l, imgR u no img⟩).1, true) := by
  have hd : dueR p (isP u no p) ⟨l, imgR u no img⟩ = true := by
    unfold dueR
    cases hq : isP u no p with
    | false => simp [imgR]
    | true => have := h hq; simp; omega
  have hr := redo_img u no img p l hi
  unfold stepR
  simp only [imgR_about, hd, Bool.and_self, if_true, hr.1]
  rw [hr.2]
theorem fold_true {u : Bool} {no : Int} : ∀ (es : List En) (s : List Int × Bool), s.2 = true → (es.foldl (stepR u no) s).2 = true
  | [], _, h => h
  | e :: es, s, h => fold_true es (stepR u no s e) (by
    unfold stepR
    split
    · split
      · rfl
      · exact h
    · exact h)
/-- What stood there makes no difference. -/
theorem torn_same (u : Bool) (no : Int) (img p q : List Int) (es : List En) (l : Int) (hl : 0 < l) (hi : isP u no img = true) (hp : isP u no p = true → lsnOf p ≤ 0) (hq : isP u no q = true → lsnOf q ≤ 0) :
    replayR u no p (⟨l, imgR u no img⟩ :: es) = replayR u no q (⟨l, imgR u no img⟩ :: es) := by
  unfold replayR replayS
  rw [List.foldl_cons, List.foldl_cons, step_img u no img p l hl hi hp, step_img u no img q l hl hi hq]
theorem torn_right (u : Bool) (no : Int) (img p : List Int) (es : List En) (l : Int) (hl : 0 < l) (hi : isP u no img = true) (hp : isP u no p = true → lsnOf p ≤ 0) (hno : 0 ≤ no ∧ no ≤ 65535) (hpl : p.length = 224) (hpb : Bytes p)
    (hf : ∀ e ∈ (⟨l, imgR u no img⟩ : En) :: es, e.Fits) : isP u no (replayR u no p (⟨l, imgR u no img⟩ :: es)) = true := by
  have h := fold_flag (u := u) hno (⟨l, imgR u no img⟩ :: es) (p, isP u no p) hf ⟨hpl, hpb⟩ rfl
  unfold replayR replayS
  rw [← h, List.foldl_cons]
  exact fold_true es _ (by rw [step_img u no img p l hl hi hp])
end Go.Proofs.Ytihjapfgllokgab
