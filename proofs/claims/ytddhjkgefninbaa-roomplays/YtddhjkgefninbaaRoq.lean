/-
  Plain facts on two rooms whose pages are alike: they find, count and tell the same.
-/
import Derived.Test.YtddhjkgefninbaaRop
namespace Go.Proofs.Ytddhjkgefninbaa
open Go.ChangeShapes Go.WideShapes Go.ChangeAt Go.RowKit
set_option linter.unusedVariables false
set_option linter.unusedSimpArgs false

def Pge.key (p : Pge) : Int × List O := (p.lsn, p.os)
/-- The pages are alike, wherever their records lie. -/
def Alk (ps qs : List Pge) : Prop := ps.map Pge.key = qs.map Pge.key
theorem Alk.refl (ps : List Pge) : Alk ps ps := rfl
theorem Alk.len {ps qs : List Pge} (h : Alk ps qs) : ps.length = qs.length := by
  have := congrArg List.length h
  simpa using this
theorem Alk.at {ps qs : List Pge} (h : Alk ps qs) {i : Nat} {p : Pge} (hp : ps[i]? = some p) : ∃ q, qs[i]? = some q ∧ q.lsn = p.lsn ∧ q.os = p.os := by
  have h1 : (qs.map Pge.key)[i]? = some p.key := by rw [← h, List.getElem?_map, hp]; rfl
  rw [List.getElem?_map] at h1
  cases hq : qs[i]? with
  | none => rw [hq] at h1; cases h1
  | some q =>
    rw [hq] at h1
    have h2 : q.key = p.key := by simpa using h1
    exact ⟨q, rfl, congrArg Prod.fst h2, congrArg Prod.snd h2⟩
theorem Alk.set {ps qs : List Pge} (h : Alk ps qs) (i : Nat) (l : Int) (v v' : Value) (os : List O) : Alk (ps.set i ⟨l, v, os⟩) (qs.set i ⟨l, v', os⟩) := by
  unfold Alk at h ⊢
  rw [List.map_set, List.map_set, h]
  rfl
theorem findIdx_key (f : List O → Bool) : ∀ ps : List Pge, ps.findIdx? (fun p => f p.os) = (ps.map Pge.key).findIdx? (fun k => f k.2)
  | ps => by rw [List.findIdx?_map]; rfl
theorem Alk.find {ps qs : List Pge} (h : Alk ps qs) (l : Nat) (m : Int) : findP ps l m = findP qs l m := by
  have e1 : ((ps[l]?).map fun p => fits p.os m) = ((qs[l]?).map fun p => fits p.os m) := by
    have a : ∀ rs : List Pge, ((rs[l]?).map fun p => fits p.os m) = ((rs.map Pge.key)[l]?).map fun k => fits k.2 m := fun rs => by rw [List.getElem?_map]; cases rs[l]? <;> rfl
    rw [a, a, h]
  unfold findP
  rw [e1, findIdx_key (fun os => fits os m) ps, findIdx_key (fun os => fits os m) qs, h]
theorem live_key : ∀ (ps : List Pge) (z : Int), ps.foldl (fun n p => n + liveN p.os) z = (ps.map Pge.key).foldl (fun n k => n + liveN k.2) z
  | [], _ => rfl
  | p :: r, z => by rw [List.foldl_cons, List.map_cons, List.foldl_cons]; exact live_key r _
theorem Alk.live {ps qs : List Pge} (h : Alk ps qs) : liveP ps = liveP qs := by
  unfold liveP
  rw [live_key, live_key, h]
theorem refs_key (ps : List Pge) : refsP ps = (ps.map Pge.key).zipIdx.flatMap fun x => refsO x.2 x.1.2 := by
  unfold refsP
  rw [List.zipIdx_map, List.flatMap_map]
  rfl
theorem Alk.refs {ps qs : List Pge} (h : Alk ps qs) : refsP ps = refsP qs := by rw [refs_key, refs_key, h]
end Go.Proofs.Ytddhjkgefninbaa
