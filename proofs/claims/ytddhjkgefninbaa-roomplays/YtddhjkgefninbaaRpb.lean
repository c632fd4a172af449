/-
  Plain facts of the places of records: what stands at each place.
-/
import Derived.Test.YtddhjkgefninbaaRpa
namespace Go.Proofs.Ytddhjkgefninbaa
open Go.ChangeShapes Go.WideShapes Go.ChangeAt Go.RowKit
set_option linter.unusedVariables false
set_option linter.unusedSimpArgs false
set_option maxRecDepth 20000

theorem addr_zero (a : Addr) : a.add 0 = a := by unfold Addr.add; split <;> simp_all
theorem addr_one (a : Addr) : a.add 1 = ⟨a.block, a.off + 1, none⟩ := by unfold Addr.add; rw [if_neg (by decide)]
theorem refs_pre (ps : List Pge) (k : Nat) : ∃ r, refsP ps = refsP (ps.take k) ++ r := by
  refine ⟨((ps.drop k).zipIdx (ps.take k).length).flatMap fun x => refsO x.2 x.1.os, ?_⟩
  conv => lhs; rw [← List.take_append_drop k ps]
  unfold refsP
  rw [List.zipIdx_append, List.flatMap_append]
  simp
theorem refsO_pre (i : Nat) (os : List O) (j : Nat) : ∃ r, refsO i os = refsO i (os.take j) ++ r := by
  refine ⟨(((os.drop j).zipIdx (os.take j).length).filter fun x => x.1.live).map fun x => ⟨(i : Int) + 1, (x.2 : Int) % 256⟩, ?_⟩
  conv => lhs; rw [← List.take_append_drop j os]
  unfold refsO
  rw [List.zipIdx_append, List.filter_append, List.map_append]
  simp
theorem refs_at (ps : List Pge) (i : Nat) (p : Pge) (hp : ps[i]? = some p) (j : Nat) (o : O) (ho : p.os[j]? = some o) (hl : o.live = true) : (refsP ps)[(refsP (ps.take i)).length + (refsO i (p.os.take j)).length]? = some ⟨(i : Int) + 1, (j : Int) % 256⟩ := by
  obtain ⟨r1, e1⟩ := refs_pre ps (i + 1)
  obtain ⟨r2, e2⟩ := refsO_pre i p.os (j + 1)
  rw [e1, refsP_succ ps i p hp, e2, refsO_succ i p.os j o ho, hl]
  simp only [if_true, List.append_assoc]
  rw [List.getElem?_append_right (by omega), Nat.add_sub_cancel_left, List.getElem?_append_right (by omega), Nat.sub_self]
  rfl
theorem live_bound (qs : List Pge) (hl : ∀ p ∈ qs, p.os.length ≤ 1000) (i : Nat) (hi : i ≤ qs.length) : 0 ≤ liveP (qs.take i) ∧ liveP (qs.take i) ≤ i * 1000 := liveP_le qs hl i hi
end Go.Proofs.Ytddhjkgefninbaa
