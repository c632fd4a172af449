/-
  Proved here: the walk of varvelaw10.RingJoins, for at most 1048576 letters in its chunks.
-/
import Derived.Test.YtbpaffjoedihbaaJoin
namespace Go.Proofs.Ytbpaffjoedihbaa
open Go.ChangeShapes Go.WideShapes Go.ChangeAt Go.RowKit
set_option linter.unusedVariables false
set_option linter.unusedSimpArgs false

theorem sts_len (first base : Int) : ∀ (l : List Ck.O) (k : Nat) (j : J), (runJ first base k j l).sts.length ≤ j.sts.length + l.length
  | [], _, _ => by simp [runJ]
  | c :: r, k, j => by
    unfold runJ
    split
    · have := sts_len first base r (k + 1) (nextJ base j c)
      simp [nextJ] at this ⊢
      omega
    · simp
set_option maxRecDepth 20000 in
set_option maxHeartbeats 4000000 in
theorem joins_walk (w : World) (first : Int) (v : Value) (os : List Ck.O) (hf : 0 ≤ first ∧ first ≤ 4294967295) (ho : Ck.Olds w v os) (hft : ∀ c ∈ os, c.Fits) (ht : tot os ≤ 1048576) :
    Calls Try.prog 6 #[.int .u32 first, v] w fun ex w' => ex = .returned (.bool true) ∧ Below w.heap.size w w' := by
  have HFT : Hid (∀ c ∈ os, c.Fits) := hft
  obtain ⟨oa, cap, rfl, hcs⟩ := ho.hold
  have HCS2 : Hid _ := hcs
  obtain ⟨n, HN⟩ : ∃ n, Hid (os.length = n) := ⟨_, rfl⟩
  have HO : Hid (Ck.Olds w (.slice oa n cap) os) := by show Ck.Olds _ _ _; rw [← HN.out]; exact ho
  clear ho hcs hft
  rw [HN.out] at HCS2 ⊢
  by_cases hn : n > 100
  · have hn' : (n : Int) > 100 := by omega
    go_enter Try.func6, Try.ntmps6
    go_wp2_with (go_at_call 13; refine (awake_any _).mono ?_; rintro e w2 ⟨rfl, b2⟩)
    go_ret
    exact ⟨rfl, b2⟩
  have hn' : ¬ (n : Int) > 100 := by omega
  have hn1 : os.length ≤ 100 := by rw [HN.out]; omega
  have HK : Hid _ := Ck.kept_any (.slice oa n cap) os w HO.out (by omega)
  go_enter Try.func6, Try.ntmps6
  go_upto_region 4 with (go_at_call 18; refine Calls.mono HK.out ?_; rintro ex w1 ⟨v1, rfl, o1, b1⟩)
  clear HK
  obtain ⟨oa1, cap1, rfl⟩ := o1.form
  have HCS : Hid _ := (Ck.Own.olds o1).hold
  rw [HN.out] at o1 ⊢
  have HO1 : Hid (Ck.Own w1 w.heap.size (.slice oa1 n cap1) os) := o1
  have HJ : Hid _ := join_any first (.slice oa1 n cap1) os w1 (Ck.Own.olds o1) hn1 hf HFT.out ht
  clear o1
  go_upto_region 5 with (go_at_call 19; refine Calls.mono HJ.out ?_; rintro ex w2 ⟨v2, rfl, o2, b2⟩)
  clear HJ
  have b12 : Below w.heap.size w w2 := b1.trans (b2.mono b1.size)
  have HO2 : Hid (St.Own w2 w1.heap.size v2 (joinR first os).sts) := o2
  have HO12 : Hid (Ck.Own w2 w.heap.size (.slice oa1 n cap1) os) := Ck.Own.keep HO1.out b2
  clear o2 HO1
  go_wp2
  go_loopw [31] (fun d wr => ∃ (k : Nat), d = .int .i64 k ∧ k ≤ n ∧ Below w2.heap.size w2 wr) (fun d _ => n - (intOf d).toNat)
  case atStart => exact ⟨0, rfl, by omega, Below.refl _ _⟩
  case round =>
    obtain ⟨k, rfl, hk, rb⟩ := hrel
    by_cases hkn : k < n
    · have hkn' : (k : Int) < (n : Int) := by omega
      obtain ⟨oa1', cap1', hq1, HCS1⟩ := (Ck.Own.olds HO12.out).hold
      obtain ⟨hx1, hx2, hx3⟩ : oa1 = oa1' ∧ n = os.length ∧ cap1 = cap1' := by simp at hq1; exact ⟨hq1.1, hq1.2.1, hq1.2.2⟩
      subst hx1 hx3
      clear hx2 hq1
      obtain ⟨a, e, nu, o, t, rfl, he, hc1⟩ := HCS1 k (by rw [HN.out]; exact hkn)
      obtain ⟨a2, e2, nu2, o2, t2, rfl, he2, hc2'⟩ := HCS2.out k hkn
      have hc2 := fun j u hj => St.cell_keep (hc2' j u hj) b12
      rw [he] at he2
      obtain ⟨rfl, rfl, rfl, rfl⟩ : e = e2 ∧ nu = nu2 ∧ o = o2 ∧ t = t2 := by simpa using he2
      have heq : Hid (∀ w, (Op.equalIn 10000 25 (.agg #[.int .u32 e, .int .u32 nu, .int .u64 o, .string t]) (.agg #[.int .u32 e, .int .u32 nu, .int .u64 o, .string t])).run Try.prog w = .ok true w) := fun w => by rw [equal25]; simp
      clear he he2 hc2' HCS1 HCS
      go_upto_region 8 with fail
      refine wp_region_held_drew (S := fun w' => Below w2.heap.size w2 w') (by kernel_rfl) rb.drew fun hS => ?_
      refine wpAnyH_take (i := 0) (v := .slice (some a) n cap1) rfl (by kernel_rfl) (by kernel_rfl) (by kernel_rfl) (fun _ _ _ h => h) (Or.inl ⟨by rfl, fun w _ => by rfl⟩) hS ?_
      try simp only [Act.put, List.getElem_toArray, List.getElem_cons_zero, List.getElem_cons_succ, List.setIfInBounds_toArray, List.set_cons_zero, List.set_cons_succ]
      refine wpAnyH_take (i := 1) (v := .int .i64 k) rfl (by kernel_rfl) (by kernel_rfl) (by kernel_rfl) (fun _ _ _ h => h) (Or.inl ⟨by rfl, fun w _ => by rfl⟩) hS ?_
      try simp only [Act.put, List.getElem_toArray, List.getElem_cons_zero, List.getElem_cons_succ, List.setIfInBounds_toArray, List.set_cons_zero, List.set_cons_succ]
      refine wpAnyH_take (i := 2) (v := .pointer (some (a.add (k * 4)))) rfl (by kernel_rfl) (by kernel_rfl) (by kernel_rfl) (fun _ _ _ h => h) (Or.inl ⟨by rfl, fun w _ => by go_simp⟩) hS ?_
      try simp only [Act.put, List.getElem_toArray, List.getElem_cons_zero, List.getElem_cons_succ, List.setIfInBounds_toArray, List.set_cons_zero, List.set_cons_succ]
      refine wpAnyH_take (i := 3) (v := .agg #[.int .u32 e, .int .u32 nu, .int .u64 o, .string t]) rfl (by kernel_rfl) (by kernel_rfl) (by kernel_rfl) (fun _ _ _ h => h) (St.yields_any (by rfl) 25 (.tmp 36) rfl (a.add (k * 4)) rfl [.int .u32 e, .int .u32 nu, .int .u64 o, .string t] (fun w h => fun j u hj => St.cell_keep (hc1 j u hj) h) Try.underlying25 rfl size25) hS ?_
      try simp only [Act.put, List.getElem_toArray, List.getElem_cons_zero, List.getElem_cons_succ, List.setIfInBounds_toArray, List.set_cons_zero, List.set_cons_succ]
      refine wpAnyH_take (i := 4) (v := .slice (some a2) n cap) rfl (by kernel_rfl) (by kernel_rfl) (by kernel_rfl) (fun _ _ _ h => h) (Or.inl ⟨by rfl, fun w _ => by rfl⟩) hS ?_
      try simp only [Act.put, List.getElem_toArray, List.getElem_cons_zero, List.getElem_cons_succ, List.setIfInBounds_toArray, List.set_cons_zero, List.set_cons_succ]
      refine wpAnyH_take (i := 5) (v := .int .i64 k) rfl (by kernel_rfl) (by kernel_rfl) (by kernel_rfl) (fun _ _ _ h => h) (Or.inl ⟨by rfl, fun w _ => by rfl⟩) hS ?_
      try simp only [Act.put, List.getElem_toArray, List.getElem_cons_zero, List.getElem_cons_succ, List.setIfInBounds_toArray, List.set_cons_zero, List.set_cons_succ]
      refine wpAnyH_take (i := 6) (v := .pointer (some (a2.add (k * 4)))) rfl (by kernel_rfl) (by kernel_rfl) (by kernel_rfl) (fun _ _ _ h => h) (Or.inl ⟨by rfl, fun w _ => by go_simp⟩) hS ?_
      try simp only [Act.put, List.getElem_toArray, List.getElem_cons_zero, List.getElem_cons_succ, List.setIfInBounds_toArray, List.set_cons_zero, List.set_cons_succ]
      refine wpAnyH_take (i := 7) (v := .agg #[.int .u32 e, .int .u32 nu, .int .u64 o, .string t]) rfl (by kernel_rfl) (by kernel_rfl) (by kernel_rfl) (fun _ _ _ h => h) (St.yields_any (by rfl) 25 (.tmp 40) rfl (a2.add (k * 4)) rfl [.int .u32 e, .int .u32 nu, .int .u64 o, .string t] (fun w h => fun j u hj => St.cell_keep (hc2 j u hj) h) Try.underlying25 rfl size25) hS ?_
      try simp only [Act.put, List.getElem_toArray, List.getElem_cons_zero, List.getElem_cons_succ, List.setIfInBounds_toArray, List.set_cons_zero, List.set_cons_succ]
      refine wpAnyH_take (i := 8) (v := .bool false) rfl (by kernel_rfl) (by kernel_rfl) (by kernel_rfl) (fun _ _ _ h => h) (yields_neq (by rfl) 25 25 (.tmp 37) (.tmp 41) rfl #[.int .u32 e, .int .u32 nu, .int .u64 o, .string t] #[.int .u32 e, .int .u32 nu, .int .u64 o, .string t] rfl rfl Try.eqGuardType25 true heq.out) hS ?_
      try simp only [Act.put, List.getElem_toArray, List.getElem_cons_zero, List.getElem_cons_succ, List.setIfInBounds_toArray, List.set_cons_zero, List.set_cons_succ]
      refine wpAnyH_done (by kernel_rfl) ?_ _
      go_wp2
      go_roundw
      case rel => exact ⟨k + 1, by go_num, by omega, hS⟩
      case measure => simp [intOf]; omega
    · obtain rfl : k = n := by omega
      have hkn' : ¬ (k : Int) < (k : Int) := by omega
      have hbr : Below w.heap.size w wr := b12.trans (rb.mono b12.size)
      have HL : Hid ((joinR first os).sts.length ≤ 1000000000) := by
        have := sts_len first (baseJ os) os 0 J0
        show _ ≤ _
        unfold joinR; simp [J0] at this ⊢; omega
      have HRJ : Hid _ := rjoin_any first (.slice oa k cap) os wr (Ck.Olds.keep HO.out hbr) hn1 hf HFT.out ht
      have HO3 : Hid (St.Own wr w1.heap.size v2 (joinR first os).sts) := St.Own.keep HO2.out rb
      clear HO2 HO12 HCS HCS2
      unfold Joined at HRJ
      generalize joinB first os = JB at HRJ ⊢
      generalize strOfNums (joinR first os).str = JS at HRJ ⊢
      generalize (joinR first os).ep = JE at HRJ ⊢
      go_wp2_with (first
        | (go_at_call 20; refine Calls.mono HRJ.out ?_; clear HRJ; rintro ex w4 ⟨v4, rfl, o4, b4⟩
           have HS : Hid _ := St.same_any v2 v4 (joinR first os).sts w4 (St.Olds.keep (St.Own.olds HO3.out) b4) (St.Own.olds o4) HL.out
           have rb4 := hbr.trans (b4.mono hbr.size)
           clear o4 b4)
        | (go_at_call 21; refine Calls.mono HS.out ?_; clear HS; rintro ex w5 ⟨rfl, b5⟩)
        | (go_at_call 13; refine (awake_any _).mono ?_; rintro ex w6 ⟨rfl, b6⟩))
      go_ret
      have rb5 := rb4.trans (b5.mono rb4.size)
      exact ⟨rfl, rb5.trans (b6.mono rb5.size)⟩
end Go.Proofs.Ytbpaffjoedihbaa
