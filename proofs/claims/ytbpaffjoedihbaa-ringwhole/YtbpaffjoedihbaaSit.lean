/-
  Proved here: whether two lists of items are alike (the document's SameItems).
-/
import Derived.Test.YtbpaffjoedihbaaItl
namespace Go.Proofs.Ytbpaffjoedihbaa.It
open Go.ChangeShapes Go.WideShapes Go.ChangeAt Go.RowKit
set_option linter.unusedVariables false
set_option linter.unusedSimpArgs false

theorem equal59 (o : O) (w : World) : (Op.equalIn 10000 59 (.agg o.arr) (.agg o.arr)).run Try.prog w = .ok true w := by
  cases o with | mk a b =>
  unfold O.arr
  go_simp
set_option maxHeartbeats 2000000 in
theorem same_any (v v2 : Value) (os : List O) (w : World) (ho : Olds w v os) (ho2 : Olds w v2 os) (hn : os.length ≤ 1000000000) :
    Calls Try.prog 24 #[v, v2] w fun e w' => e = .returned (.bool true) ∧ Below w.heap.size w w' := by
  obtain ⟨oa, cap, rfl, hcs⟩ := ho.hold
  obtain ⟨oa2, cap2, rfl, hcs2⟩ := ho2.hold
  have HCS : Hid _ := hcs
  have HCS2 : Hid _ := hcs2
  clear hcs hcs2 ho ho2
  obtain ⟨n, HN⟩ : ∃ n, Hid (os.length = n) := ⟨_, rfl⟩
  rw [HN.out] at HCS HCS2 hn ⊢
  go_enter Try.func24, Try.ntmps24
  go_wp2
  go_loopw [13] (fun d wr => ∃ (k : Nat), d = .int .i64 k ∧ k ≤ n ∧ Below w.heap.size w wr) (fun d _ => n - (intOf d).toNat)
  case atStart => exact ⟨0, rfl, by omega, Below.refl _ _⟩
  case round =>
    obtain ⟨k, rfl, hk, rb⟩ := hrel
    by_cases hkn : k < n
    · have hkn' : (k : Int) < (n : Int) := by omega
      obtain ⟨a, p, t, rfl, he, hc1⟩ := HCS.out k hkn
      obtain ⟨a2, p2, t2, rfl, he2, hc2⟩ := HCS2.out k hkn
      rw [he] at he2
      obtain ⟨rfl, rfl⟩ : p = p2 ∧ t = t2 := by simpa using he2
      have heq : Hid (∀ w, (Op.equalIn 10000 59 (.agg (O.arr ⟨p, t⟩)) (.agg (O.arr ⟨p, t⟩))).run Try.prog w = .ok true w) := fun w => equal59 _ w
      clear he he2
      go_upto_region 6 with fail
      refine wp_region_held_drew (S := fun w' => Below w.heap.size w w') (by kernel_rfl) rb.drew fun hS => ?_
      refine wpAnyH_take (i := 0) (v := .slice (some a) n cap) rfl (by kernel_rfl) (by kernel_rfl) (by kernel_rfl) (fun _ _ _ h => h) (Or.inl ⟨by rfl, fun w _ => by rfl⟩) hS ?_
      try simp only [Act.put, List.getElem_toArray, List.getElem_cons_zero, List.getElem_cons_succ, List.setIfInBounds_toArray, List.set_cons_zero, List.set_cons_succ]
      refine wpAnyH_take (i := 1) (v := .int .i64 k) rfl (by kernel_rfl) (by kernel_rfl) (by kernel_rfl) (fun _ _ _ h => h) (Or.inl ⟨by rfl, fun w _ => by rfl⟩) hS ?_
      try simp only [Act.put, List.getElem_toArray, List.getElem_cons_zero, List.getElem_cons_succ, List.setIfInBounds_toArray, List.set_cons_zero, List.set_cons_succ]
      refine wpAnyH_take (i := 2) (v := .pointer (some (a.add (k * 2)))) rfl (by kernel_rfl) (by kernel_rfl) (by kernel_rfl) (fun _ _ _ h => h) (Or.inl ⟨by rfl, fun w _ => by go_simp⟩) hS ?_
      try simp only [Act.put, List.getElem_toArray, List.getElem_cons_zero, List.getElem_cons_succ, List.setIfInBounds_toArray, List.set_cons_zero, List.set_cons_succ]
      refine wpAnyH_take (i := 3) (v := .agg (O.arr ⟨p, t⟩)) rfl (by kernel_rfl) (by kernel_rfl) (by kernel_rfl) (fun _ _ _ h => h) (St.yields_any (by rfl) 59 (.tmp 18) rfl (a.add (k * 2)) rfl (O.cells ⟨p, t⟩) (fun w h => fun j u hj => cell_keep (hc1 j u hj) h) Try.underlying59 rfl size59) hS ?_
      try simp only [Act.put, List.getElem_toArray, List.getElem_cons_zero, List.getElem_cons_succ, List.setIfInBounds_toArray, List.set_cons_zero, List.set_cons_succ]
      refine wpAnyH_take (i := 4) (v := .slice (some a2) n cap2) rfl (by kernel_rfl) (by kernel_rfl) (by kernel_rfl) (fun _ _ _ h => h) (Or.inl ⟨by rfl, fun w _ => by rfl⟩) hS ?_
      try simp only [Act.put, List.getElem_toArray, List.getElem_cons_zero, List.getElem_cons_succ, List.setIfInBounds_toArray, List.set_cons_zero, List.set_cons_succ]
      refine wpAnyH_take (i := 5) (v := .int .i64 k) rfl (by kernel_rfl) (by kernel_rfl) (by kernel_rfl) (fun _ _ _ h => h) (Or.inl ⟨by rfl, fun w _ => by rfl⟩) hS ?_
      try simp only [Act.put, List.getElem_toArray, List.getElem_cons_zero, List.getElem_cons_succ, List.setIfInBounds_toArray, List.set_cons_zero, List.set_cons_succ]
      refine wpAnyH_take (i := 6) (v := .pointer (some (a2.add (k * 2)))) rfl (by kernel_rfl) (by kernel_rfl) (by kernel_rfl) (fun _ _ _ h => h) (Or.inl ⟨by rfl, fun w _ => by go_simp⟩) hS ?_
      try simp only [Act.put, List.getElem_toArray, List.getElem_cons_zero, List.getElem_cons_succ, List.setIfInBounds_toArray, List.set_cons_zero, List.set_cons_succ]
      refine wpAnyH_take (i := 7) (v := .agg (O.arr ⟨p, t⟩)) rfl (by kernel_rfl) (by kernel_rfl) (by kernel_rfl) (fun _ _ _ h => h) (St.yields_any (by rfl) 59 (.tmp 22) rfl (a2.add (k * 2)) rfl (O.cells ⟨p, t⟩) (fun w h => fun j u hj => cell_keep (hc2 j u hj) h) Try.underlying59 rfl size59) hS ?_
      try simp only [Act.put, List.getElem_toArray, List.getElem_cons_zero, List.getElem_cons_succ, List.setIfInBounds_toArray, List.set_cons_zero, List.set_cons_succ]
      refine wpAnyH_take (i := 8) (v := .bool false) rfl (by kernel_rfl) (by kernel_rfl) (by kernel_rfl) (fun _ _ _ h => h) (yields_neq (by rfl) 59 59 (.tmp 19) (.tmp 23) rfl (O.arr ⟨p, t⟩) (O.arr ⟨p, t⟩) rfl rfl Try.eqGuardType59 true heq.out) hS ?_
      try simp only [Act.put, List.getElem_toArray, List.getElem_cons_zero, List.getElem_cons_succ, List.setIfInBounds_toArray, List.set_cons_zero, List.set_cons_succ]
      refine wpAnyH_done (by kernel_rfl) ?_ _
      go_wp2
      go_roundw
      case rel => exact ⟨k + 1, by go_num, by omega, hS⟩
      case measure => simp [intOf]; omega
    · obtain rfl : k = n := by omega
      have hkn' : ¬ (k : Int) < (k : Int) := by omega
      go_wp2
      go_ret
      exact ⟨rfl, rb⟩
end Go.Proofs.Ytbpaffjoedihbaa.It
