/-
  Proved here: the trial of a set's calls against the document's, walked.
-/
import Derived.Test.YtmnbfcmamhinbabWre
import Derived.Test.YtmnbfcmamhinbabWdw
namespace Go.Proofs.Ytmnbfcmamhinbab.Ws
open Go.ChangeShapes Go.WideShapes Go.ChangeAt Go.RowKit
open Go.Deep Go.Maps
set_option linter.unusedVariables false
set_option linter.unusedSimpArgs false

theorem rel_read {L : List (Int × List Int)} {os : List Wo} (h : RelW L os) (p : Int) : rdW os p = (hasP L p, (if hasP L p = true then baseP (atP L p) else zs 64), nowP (atP L p)) := by
  cases hh : hasP L p with
  | true => rw [h.rd p hh, if_pos rfl]
  | false =>
    rw [h.no p hh, if_neg (by decide), at_none hh]
    rfl
theorem del_rel {w : World} {s m : Nat} {L : List (Int × List Int)} (c : SAt w s m L) (k : Int) (hk : (Lit.int .u16 k).wf = true) :
    Calls Try.prog 20 #[.pointer (some ⟨s, 0, none⟩), .int .u16 k] w fun e w' => e = .returned (.string (delS (if hasP L k = true then baseP (atP L k) else zs 64) (nowP (atP L k)))) ∧ Below w.heap.size w w' := by
  cases hh : hasP L k with
  | true => rw [if_pos rfl]; exact delta_any c k hk hh
  | false =>
    rw [if_neg (by decide), at_none hh]
    have e : nowP (zs 128) = zs 64 := rfl
    rw [e, delS_zero]
    exact delta_no c k hk hh
set_option maxHeartbeats 16000000 in
set_option maxRecDepth 20000 in
theorem playsWalk (w : World) (v0 : Value) (ops0 : List Wo) (h : Ops w v0 ops0) :
    Calls Try.prog 6 #[v0] w fun e w' => e = .returned (.bool true) ∧ Below w.heap.size w w' := by
  obtain ⟨oa, cap, rfl, hlen, hcs⟩ := h
  have HCS : Hid _ := hcs
  clear hcs
  obtain ⟨n, HN⟩ : ∃ n, Hid (ops0.length = n) := ⟨_, rfl⟩
  rw [HN.out] at HCS hlen ⊢
  have hnew := new_any w
  have hz44 := zero44
  have hz42 := zero42
  have hz41 := zero41
  go_enter Try.func6, Try.ntmps6
  go_wp2_with (go_at_call 15; refine hnew.mono ?_; clear hnew; rintro e w1 ⟨s, rfl, hs, m, hm, c1, b1⟩)
  have HSM : Hid (w.heap.size ≤ s ∧ w.heap.size ≤ m) := ⟨hs, hm⟩
  have rR : Row (w1.alloc (.cells #[.slice none 0 0] 39)) w1.heap.size #[.slice none 0 0] 39 := Row.new _ _ _
  have hb0 : Below w1.heap.size w1 (w1.alloc (.cells #[.slice none 0 0] 39)) := (Below.refl _ _).alloc (Nat.le_refl _) _
  have c2 := c1.below hb0
  have b2 := b1.trans (hb0.mono b1.size)
  have HRB : Hid (w.heap.size ≤ w1.heap.size) := b1.size
  clear hs hm c1 b1 hb0
  generalize w1.alloc (.cells #[.slice none 0 0] 39) = w2 at rR c2 b2 ⊢
  generalize w1.heap.size = r at rR HRB ⊢
  go_loopw [5] (fun d wr => ∃ (i : Nat) (L : List (Int × List Int)) (v : Value) (os : List Wo), d = .int .i64 i ∧ i ≤ 30 ∧ i ≤ n ∧ SAt wr s m L ∧ DAt wr r w.heap.size v os ∧ Hid (RelW L os) ∧ os.length ≤ i ∧ Below w.heap.size w wr) (fun d _ => 30 - (intOf d).toNat)
  case atStart => exact ⟨0, [], _, [], rfl, by omega, by omega, c2, ⟨rR, OwnW.empty _ _, fun o ho => (by cases ho), by simp⟩, RelW.nil, by simp, b2⟩
  case round =>
    clear c2 b2 rR
    obtain ⟨i, L, v, os, rfl, hi30, hin, c1, d1, HREL, hlo, b1⟩ := hrel
    have hle99 : os.length ≤ 99 := by omega
    by_cases hgo : i < n ∧ i < 30
    · obtain ⟨g1, g2⟩ := hgo
      have g1' : (i : Int) < (n : Int) := by omega
      have g2' : (i : Int) < 30 := by omega
      obtain ⟨A, x, rfl, _, HOK', hcell⟩ := HCS.out i g1
      have HO : Hid x.Ok := HOK'
      clear HOK'
      have hcw : ∀ j u, x.cells[j]? = some u → wr.cell? ((A.add (i * 67)).add j) = some u := fun j u hj => cell_keep (hcell j u hj) b1
      have HXL : Hid (x.cells.length = 67) := x.len HO.out.2.1
      have HX1 : Hid (x.cells.toArray.all (·.oneCell') = true) := x.one
      obtain ⟨XL, HXA⟩ : ∃ XL, Hid (x.cells = XL) := ⟨_, rfl⟩
      rw [HXA.out] at hcw HXL HX1
      clear hcell
      have z0 : Row (wr.alloc (.cells zA 44)) wr.heap.size zA 44 := Row.new _ _ _
      obtain ⟨ZA, HZA⟩ : ∃ ZA, Hid (zA = ZA) := ⟨_, rfl⟩
      have HZS : Hid (ZA.size = 67) := by show _ = _; rw [← HZA.out]; exact zA_size
      rw [HZA.out] at z0 hz44
      have ts : Hid (1 = 1) := rfl
      have tl : Hid (1 = 1) := rfl
      go_upto_region 9 with (first
        | (have hh := tl; clear hh tl; refine wpList_load_any rfl 44 (.tmp 32) rfl (A.add (i * 67)) rfl XL _ hcw Try.underlying44 rfl (by rw [size44, HXL.out]) ?_)
        | (have hh := ts; clear hh ts; refine store_cells rfl 44 (.tmp 6) (.tmp 33) rfl wr.heap.size XL.toArray rfl rfl 44 _ z0 67 size44 HZS.out (by rw [List.size_toArray]; exact HXL.out) HX1.out ?_))
      have hb6 : Below wr.heap.size wr ((wr.alloc (.cells ZA 44)).setRow wr.heap.size XL.toArray) := below_setRow ((Below.refl _ _).alloc (Nat.le_refl _) _) (Nat.le_refl _) _
      have rO := z0.set XL.toArray
      have HXT : Hid (x.cells.toArray = XL.toArray) := by show _ = _; rw [HXA.out]
      have c6 := c1.below hb6
      have d6 := d1.below hb6
      have b6 := b1.trans (hb6.mono b1.size)
      clear hcw z0 hb6 c1 d1 b1
      generalize (wr.alloc (.cells ZA 44)).setRow wr.heap.size XL.toArray = w6 at rO c6 d6 b6 ⊢
      generalize wr.heap.size = X6 at rO ⊢
      generalize XL.toArray = OA at rO HXT HX1
      have HRI : Hid (L.Pairwise fun p q => p.1 < q.1) := c6.rising
      have HWR : Hid (Wr (atP L x.pg)) := c6.at_wr x.pg
      refine wp_region_held_drew (S := fun w' => Row w' X6 OA 44) (by kernel_rfl) rO fun hS => ?_
      refine wpAnyH_take (i := 0) (v := .pointer (some ⟨s, 0, none⟩)) rfl (by kernel_rfl) (by kernel_rfl) (by kernel_rfl) (fun _ _ _ h => h) (Or.inl ⟨by rfl, fun w _ => by go_simp⟩) hS ?_
      try simp only [Act.put, List.getElem_toArray, List.getElem_cons_zero, List.getElem_cons_succ, List.setIfInBounds_toArray, List.set_cons_zero, List.set_cons_succ]
      refine wpAnyH_take (i := 1) (v := .pointer (some ⟨X6, 0, none⟩)) rfl (by kernel_rfl) (by kernel_rfl) (by kernel_rfl) (fun _ _ _ h => h) (Or.inl ⟨by rfl, fun w _ => by go_simp⟩) hS ?_
      try simp only [Act.put, List.getElem_toArray, List.getElem_cons_zero, List.getElem_cons_succ, List.setIfInBounds_toArray, List.set_cons_zero, List.set_cons_succ]
      refine wpAnyH_take (i := 2) (v := .int .u16 x.pg) rfl (by kernel_rfl) (by kernel_rfl) (by kernel_rfl) (fun _ _ _ h => h) (Or.inl ⟨by rfl, fun w h => by have c := (op_at h HXT.out HO.out.2.1).1; go_simp⟩) hS ?_
      try simp only [Act.put, List.getElem_toArray, List.getElem_cons_zero, List.getElem_cons_succ, List.setIfInBounds_toArray, List.set_cons_zero, List.set_cons_succ]
      refine wpAnyH_take (i := 3) (v := .pointer (some ⟨X6, 1, none⟩)) rfl (by kernel_rfl) (by kernel_rfl) (by kernel_rfl) (fun _ _ _ h => h) (Or.inl ⟨by rfl, fun w _ => by go_simp⟩) hS ?_
      try simp only [Act.put, List.getElem_toArray, List.getElem_cons_zero, List.getElem_cons_succ, List.setIfInBounds_toArray, List.set_cons_zero, List.set_cons_succ]
      refine wpAnyH_take (i := 4) (v := .agg (bs x.b)) rfl (by kernel_rfl) (by kernel_rfl) (by kernel_rfl) (fun _ _ _ h => h) (yields_any (by rfl) 42 (.tmp 37) rfl ⟨X6, 1, none⟩ rfl (x.b.map (Value.int .u8)) (fun w h => (op_at h HXT.out HO.out.2.1).2.1) Try.underlying42 rfl (by rw [size42, List.length_map, HO.out.2.1])) hS ?_
      try simp only [Act.put, List.getElem_toArray, List.getElem_cons_zero, List.getElem_cons_succ, List.setIfInBounds_toArray, List.set_cons_zero, List.set_cons_succ]
      refine wpAnyH_take (i := 5) (v := .pointer (some ⟨X6, 65, none⟩)) rfl (by kernel_rfl) (by kernel_rfl) (by kernel_rfl) (fun _ _ _ h => h) (Or.inl ⟨by rfl, fun w _ => by go_simp⟩) hS ?_
      try simp only [Act.put, List.getElem_toArray, List.getElem_cons_zero, List.getElem_cons_succ, List.setIfInBounds_toArray, List.set_cons_zero, List.set_cons_succ]
      refine wpAnyH_take (i := 6) (v := .int .i64 x.off) rfl (by kernel_rfl) (by kernel_rfl) (by kernel_rfl) (fun _ _ _ h => h) (Or.inl ⟨by rfl, fun w h => by have c := (op_at h HXT.out HO.out.2.1).2.2.1; go_simp⟩) hS ?_
      try simp only [Act.put, List.getElem_toArray, List.getElem_cons_zero, List.getElem_cons_succ, List.setIfInBounds_toArray, List.set_cons_zero, List.set_cons_succ]
      refine wpAnyH_take (i := 7) (v := .pointer (some ⟨X6, 66, none⟩)) rfl (by kernel_rfl) (by kernel_rfl) (by kernel_rfl) (fun _ _ _ h => h) (Or.inl ⟨by rfl, fun w _ => by go_simp⟩) hS ?_
      try simp only [Act.put, List.getElem_toArray, List.getElem_cons_zero, List.getElem_cons_succ, List.setIfInBounds_toArray, List.set_cons_zero, List.set_cons_succ]
      refine wpAnyH_take (i := 8) (v := .string x.t) rfl (by kernel_rfl) (by kernel_rfl) (by kernel_rfl) (fun _ _ _ h => h) (Or.inl ⟨by rfl, fun w h => by have c := (op_at h HXT.out HO.out.2.1).2.2.2; go_simp⟩) hS ?_
      try simp only [Act.put, List.getElem_toArray, List.getElem_cons_zero, List.getElem_cons_succ, List.setIfInBounds_toArray, List.set_cons_zero, List.set_cons_succ]
      refine wpAnyH_take (i := 10) (v := .pointer (some ⟨r, 0, none⟩)) rfl (by kernel_rfl) (by kernel_rfl) (by kernel_rfl) (fun _ _ _ h => h) (Or.inl ⟨by rfl, fun w _ => by go_simp⟩) hS ?_
      try simp only [Act.put, List.getElem_toArray, List.getElem_cons_zero, List.getElem_cons_succ, List.setIfInBounds_toArray, List.set_cons_zero, List.set_cons_succ]
      refine wpAnyH_take (i := 11) (v := .pointer (some ⟨X6, 0, none⟩)) rfl (by kernel_rfl) (by kernel_rfl) (by kernel_rfl) (fun _ _ _ h => h) (Or.inl ⟨by rfl, fun w _ => by go_simp⟩) hS ?_
      try simp only [Act.put, List.getElem_toArray, List.getElem_cons_zero, List.getElem_cons_succ, List.setIfInBounds_toArray, List.set_cons_zero, List.set_cons_succ]
      refine wpAnyH_take (i := 12) (v := .int .u16 x.pg) rfl (by kernel_rfl) (by kernel_rfl) (by kernel_rfl) (fun _ _ _ h => h) (Or.inl ⟨by rfl, fun w h => by have c := (op_at h HXT.out HO.out.2.1).1; go_simp⟩) hS ?_
      try simp only [Act.put, List.getElem_toArray, List.getElem_cons_zero, List.getElem_cons_succ, List.setIfInBounds_toArray, List.set_cons_zero, List.set_cons_succ]
      refine wpAnyH_take (i := 13) (v := .pointer (some ⟨X6, 1, none⟩)) rfl (by kernel_rfl) (by kernel_rfl) (by kernel_rfl) (fun _ _ _ h => h) (Or.inl ⟨by rfl, fun w _ => by go_simp⟩) hS ?_
      try simp only [Act.put, List.getElem_toArray, List.getElem_cons_zero, List.getElem_cons_succ, List.setIfInBounds_toArray, List.set_cons_zero, List.set_cons_succ]
      refine wpAnyH_take (i := 14) (v := .agg (bs x.b)) rfl (by kernel_rfl) (by kernel_rfl) (by kernel_rfl) (fun _ _ _ h => h) (yields_any (by rfl) 42 (.tmp 47) rfl ⟨X6, 1, none⟩ rfl (x.b.map (Value.int .u8)) (fun w h => (op_at h HXT.out HO.out.2.1).2.1) Try.underlying42 rfl (by rw [size42, List.length_map, HO.out.2.1])) hS ?_
      try simp only [Act.put, List.getElem_toArray, List.getElem_cons_zero, List.getElem_cons_succ, List.setIfInBounds_toArray, List.set_cons_zero, List.set_cons_succ]
      refine wpAnyH_take (i := 15) (v := .pointer (some ⟨X6, 65, none⟩)) rfl (by kernel_rfl) (by kernel_rfl) (by kernel_rfl) (fun _ _ _ h => h) (Or.inl ⟨by rfl, fun w _ => by go_simp⟩) hS ?_
      try simp only [Act.put, List.getElem_toArray, List.getElem_cons_zero, List.getElem_cons_succ, List.setIfInBounds_toArray, List.set_cons_zero, List.set_cons_succ]
      refine wpAnyH_take (i := 16) (v := .int .i64 x.off) rfl (by kernel_rfl) (by kernel_rfl) (by kernel_rfl) (fun _ _ _ h => h) (Or.inl ⟨by rfl, fun w h => by have c := (op_at h HXT.out HO.out.2.1).2.2.1; go_simp⟩) hS ?_
      try simp only [Act.put, List.getElem_toArray, List.getElem_cons_zero, List.getElem_cons_succ, List.setIfInBounds_toArray, List.set_cons_zero, List.set_cons_succ]
      refine wpAnyH_take (i := 17) (v := .pointer (some ⟨X6, 66, none⟩)) rfl (by kernel_rfl) (by kernel_rfl) (by kernel_rfl) (fun _ _ _ h => h) (Or.inl ⟨by rfl, fun w _ => by go_simp⟩) hS ?_
      try simp only [Act.put, List.getElem_toArray, List.getElem_cons_zero, List.getElem_cons_succ, List.setIfInBounds_toArray, List.set_cons_zero, List.set_cons_succ]
      refine wpAnyH_take (i := 18) (v := .string x.t) rfl (by kernel_rfl) (by kernel_rfl) (by kernel_rfl) (fun _ _ _ h => h) (Or.inl ⟨by rfl, fun w h => by have c := (op_at h HXT.out HO.out.2.1).2.2.2; go_simp⟩) hS ?_
      try simp only [Act.put, List.getElem_toArray, List.getElem_cons_zero, List.getElem_cons_succ, List.setIfInBounds_toArray, List.set_cons_zero, List.set_cons_succ]
      refine wpAnyH_take (i := 19) (v := .agg x.cells.toArray) rfl (by kernel_rfl) (by kernel_rfl) (by kernel_rfl) (fun _ _ _ h => h) (yields_build (by rfl) 49 _ rfl [(0, .int .u16 x.pg), (1, .agg (bs x.b)), (2, .int .i64 x.off), (3, .string x.t)] rfl _ (built49 x HO.out.2.1)) hS ?_
      try simp only [Act.put, List.getElem_toArray, List.getElem_cons_zero, List.getElem_cons_succ, List.setIfInBounds_toArray, List.set_cons_zero, List.set_cons_succ]
      refine wpAnyH_ready (rs := [9]) (by kernel_rfl) (by simp) ?_
      refine AllReadyH.cons rfl (fun K hK => ?_) AllReadyH.nil
      go_simp
      go_at_call 16
      refine (write_any (c6.below (Below.refl _ _).drew) x HO.out).mono ?_
      rintro e W3 ⟨rfl, c9, o9⟩
      have nr : ∀ g cs t, Row w6.drew g cs t → t ≠ 71 → ¬ two s m g := fun g cs t hg ht => by
        rintro (q | q)
        · subst q; exact Row.un (w := w6) hg c6.row ht
        · subst q; exact row_nomap (w := w6) hg c6.own
      have d9 := (d6.below (Below.refl _ _).drew).off o9 (nr r _ 39 d6.row (by decide)) (fun g cs hg => nr g cs 49 hg (by decide))
      have b9 : Below w.heap.size w W3 := b6.drew.trans (o9.below b6.drew.size (by rintro q (rfl | rfl) <;> have := HSM.out <;> omega))
      refine hK.out _ _ (Row.off (w := w6.drew) hS o9 (nr X6 OA 44 hS (by decide))) fun hS => ?_
      try simp only [Act.put, List.getElem_toArray, List.getElem_cons_zero, List.getElem_cons_succ, List.setIfInBounds_toArray, List.set_cons_zero, List.set_cons_succ]
      have hbs : w.heap.size ≤ W3.heap.size := b9.size
      refine wpAnyH_ready (rs := [20]) (by kernel_rfl) (by simp) ?_
      refine AllReadyH.cons rfl (fun K hK => ?_) AllReadyH.nil
      go_simp
      go_at_call 17
      refine (wwrite_any d9 hbs hle99 x HO.out).mono ?_
      rintro e W4 ⟨v4, rfl, d10, o10⟩
      have nr2 : ∀ g cs t, Row W3 g cs t → t ≠ 39 → t ≠ 49 → ¬ (g = r ∨ v.ownBlock = some g) := fun g cs t hg h1 h2 => by
        rintro (q | q)
        · subst q; exact Row.un hg d9.row h1
        · obtain ⟨ds, hd⟩ := d9.own.row g q; exact Row.un hg hd h2
      have c10 := c9.off o10 (by
        rintro k (rfl | rfl)
        · exact nr2 _ _ _ c9.row (by decide) (by decide)
        · rintro (q | q)
          · subst q; exact row_nomap d9.row c9.own
          · obtain ⟨ds, hd⟩ := d9.own.row _ q; exact row_nomap hd c9.own)
      have b10 : Below w.heap.size w W4 := b9.trans (o10.below b9.size (by
        rintro k (rfl | q)
        · have := HRB.out; omega
        · exact d9.own.lt k q))
      refine hK.out _ _ (Row.off (w := W3) hS o10 (nr2 X6 OA 44 hS (by decide) (by decide))) fun hS => ?_
      try simp only [Act.put, List.getElem_toArray, List.getElem_cons_zero, List.getElem_cons_succ, List.setIfInBounds_toArray, List.set_cons_zero, List.set_cons_succ]
      rw [← HREL.out.err x]
      refine wpAnyH_take (i := 21) (v := .bool false) rfl (by kernel_rfl) (by kernel_rfl) (by kernel_rfl) (fun _ _ _ h => h) (Or.inl ⟨by rfl, fun w _ => by go_simp⟩) hS ?_
      try simp only [Act.put, List.getElem_toArray, List.getElem_cons_zero, List.getElem_cons_succ, List.setIfInBounds_toArray, List.set_cons_zero, List.set_cons_succ]
      refine wpAnyH_done (by kernel_rfl) ?_ _
      have r10 : Row W4 X6 OA 44 := hS
      have HREL2 : Hid (RelW (wrL L x) (wL os x)) := HREL.out.step HRI.out HO.out HWR.out
      have hL2 : (wL os x).length ≤ i + 1 := by unfold wL; split; rw [List.length_append]; simp; omega; omega
      clear hS rO c6 d6 b6 c9 d9 b9 o9 o10 nr nr2 HREL HRI HWR hlo hle99 hbs
      generalize wrL L x = L2 at c10 HREL2
      generalize wL os x = os2 at d10 HREL2 hL2
      have hrd := read_any c10 x.pg HO.out.1
      have hrr : Hid (∀ W, Below W4.heap.size W4 W → Calls Try.prog 19 #[.pointer (some ⟨r, 0, none⟩), .int .u16 x.pg] W fun e w' => e = .returned (.tuple #[.agg (bs (rdW os2 x.pg).2.1), .agg (bs (rdW os2 x.pg).2.2), .bool (rdW os2 x.pg).1]) ∧ Below W.heap.size W w') := fun W hW => wread_any (d10.below hW) HREL2.out.good x.pg
      have hre := rel_read HREL2.out x.pg
      have HWY : Hid (Wr (atP L2 x.pg)) := c10.at_wr x.pg
      have HDL0 : Hid (∀ W, Below W4.heap.size W4 W → Calls Try.prog 20 #[.pointer (some ⟨s, 0, none⟩), .int .u16 x.pg] W fun e w' => e = .returned (.string (delS (if hasP L2 x.pg = true then baseP (atP L2 x.pg) else zs 64) (nowP (atP L2 x.pg)))) ∧ Below W.heap.size W w') := fun W hW => del_rel (c10.below hW) x.pg HO.out.1
      have hbb : (if hasP L2 x.pg = true then baseP (atP L2 x.pg) else zs 64).length = 64 := by split; exact baseP_len HWY.out; exact zs_length _
      have hnn := nowP_lenD HWY.out
      have HYB : Hid (Bytes (nowP (atP L2 x.pg))) := fun y hy => HWY.out.2 y (List.mem_of_mem_drop (List.mem_of_mem_take hy))
      rw [hre] at hrr
      generalize (if hasP L2 x.pg = true then baseP (atP L2 x.pg) else zs 64) = bb at hrr HDL0 hbb
      generalize nowP (atP L2 x.pg) = nn at hrd hrr HDL0 hnn HYB
      generalize hasP L2 x.pg = fd at hrd hrr
      have HBB : Hid (bb.length = 64) := hbb
      have HNN : Hid (nn.length = 64) := hnn
      have HMK0 : Hid (∀ W, Calls Try.prog 21 #[.agg (bs bb), .agg (bs nn)] W fun e w' => e = .returned (.string (delS bb nn)) ∧ Below W.heap.size W w') := fun W => Dl.rmake_any bb nn HBB.out HNN.out HYB.out W
      obtain ⟨DS, HDS⟩ : ∃ DS, Hid (delS bb nn = DS) := ⟨_, rfl⟩
      rw [HDS.out] at HDL0 HMK0
      have HMK := HMK0
      clear hbb hnn hre HWY HMK0
      have d0 := (op_at r10 HXT.out HO.out.2.1).1
      have ts : Hid (1 = 1) := rfl
      go_upto_region 12 with (first
        | (go_at_call 18; refine hrd.mono ?_; clear hrd; rintro e w7 ⟨rfl, hb7⟩; have z0 : Row (w7.alloc (.cells (bs (zs 64)) 42)) w7.heap.size (bs (zs 64)) 42 := Row.new _ _ _)
        | (have hh := ts; clear hh ts; refine store_cells rfl 42 (.tmp 7) (.tmp 61) rfl w7.heap.size (bs nn) rfl rfl 42 _ z0 64 size42 (by rw [bs_size, zs_length]) (by rw [bs_size]; exact HNN.out) (bs_one _) ?_))
      have hb8 : Below W4.heap.size W4 ((w7.alloc (.cells (bs (zs 64)) 42)).setRow w7.heap.size (bs nn)) := hb7.trans ((below_setRow ((Below.refl _ _).alloc (Nat.le_refl _) _) (Nat.le_refl _) _ : Below w7.heap.size w7 _).mono hb7.size)
      have r7 := z0.set (bs nn)
      have r11 := r10.below hb8 r10.lt
      clear hb7 z0 d0
      generalize (w7.alloc (.cells (bs (zs 64)) 42)).setRow w7.heap.size (bs nn) = w8 at r7 r11 hb8 ⊢
      generalize w7.heap.size = X7 at r7 ⊢
      have d0 := (op_at r11 HXT.out HO.out.2.1).1
      have hq := hrr.out w8 hb8
      clear hrr
      have t1 : Hid (1 = 1) := rfl
      go_upto_region 13 with (first
        | (go_at_call 19; refine hq.mono ?_; clear hq; rintro e w9 ⟨rfl, hb9⟩; have z1 : Row ((w9.alloc (.cells (bs (zs 64)) 41)).alloc (.cells (bs (zs 64)) 41)) w9.heap.size (bs (zs 64)) 41 := (Row.new _ _ _).alloc _; have z2 : Row ((w9.alloc (.cells (bs (zs 64)) 41)).alloc (.cells (bs (zs 64)) 41)) (w9.heap.size + 1) (bs (zs 64)) 41 := (by have := Row.new (w9.alloc (.cells (bs (zs 64)) 41)) (bs (zs 64)) 41; simpa using this))
        | (have hh := t1; clear hh t1; refine store_cells rfl 41 (.tmp 9) (.tmp 68) rfl w9.heap.size (bs bb) rfl rfl 41 _ z1 64 size41 (by rw [bs_size, zs_length]) (by rw [bs_size]; exact HBB.out) (bs_one _) ?_; have t2 : Hid (2 = 2) := rfl)
        | (have hh := t2; clear hh t2; refine store_cells rfl 41 (.tmp 10) (.tmp 69) rfl (w9.heap.size + 1) (bs nn) rfl rfl 41 _ (z2.other (by omega) _) 64 size41 (by rw [bs_size, zs_length]) (by rw [bs_size]; exact HNN.out) (bs_one _) ?_))
      have hb10 : Below w8.heap.size w8 ((((w9.alloc (.cells (bs (zs 64)) 41)).alloc (.cells (bs (zs 64)) 41)).setRow w9.heap.size (bs bb)).setRow (w9.heap.size + 1) (bs nn)) := hb9.trans ((below_setRow (below_setRow (((Below.refl w9.heap.size w9).alloc (Nat.le_refl _) _).alloc (by simp) _) (Nat.le_refl _) _) (by omega) _).mono hb9.size)
      have r9 := (z1.set (bs bb)).other (g := w9.heap.size + 1) (by omega) (bs nn)
      have r9b := (z2.other (g := w9.heap.size) (by omega) (bs bb)).set (bs nn)
      have r12 := r11.below hb10 r11.lt
      have r7b := r7.below hb10 r7.lt
      have hb11 := hb8.trans (hb10.mono hb8.size)
      clear hb9 hb10 z1 z2 d0 r11 r7 hb8
      generalize (((w9.alloc (.cells (bs (zs 64)) 41)).alloc (.cells (bs (zs 64)) 41)).setRow w9.heap.size (bs bb)).setRow (w9.heap.size + 1) (bs nn) = w10 at r9 r9b r12 r7b hb11 ⊢
      generalize w9.heap.size = X9 at r9 r9b ⊢
      have HDL := HDL0
      clear HDL0
      refine wp_region_held_drew (S := fun w' => Row w' X7 (bs nn) 42 ∧ Row w' X9 (bs bb) 41 ∧ Row w' (X9 + 1) (bs nn) 41 ∧ Row w' X6 OA 44 ∧ Below W4.heap.size W4 w') (by kernel_rfl) ⟨r7b, r9, r9b, r12, hb11.drew⟩ fun hS => ?_
      refine wpAnyH_take (i := 0) (v := .agg (bs nn)) rfl (by kernel_rfl) (by kernel_rfl) (by kernel_rfl) (fun _ _ _ h => h) (yields_row (by rfl) 42 (.tmp 7) rfl X7 rfl 42 (bs nn) (fun w h => h.1) 64 5 Try.underlying42 size42 (by rw [bs_size]; exact HNN.out)) hS ?_
      try simp only [Act.put, List.getElem_toArray, List.getElem_cons_zero, List.getElem_cons_succ, List.setIfInBounds_toArray, List.set_cons_zero, List.set_cons_succ]
      refine wpAnyH_take (i := 1) (v := .agg (bs nn)) rfl (by kernel_rfl) (by kernel_rfl) (by kernel_rfl) (fun _ _ _ h => h) (yields_row (by rfl) 41 (.tmp 10) rfl (X9 + 1) rfl 41 (bs nn) (fun w h => h.2.2.1) 64 5 Try.underlying41 size41 (by rw [bs_size]; exact HNN.out)) hS ?_
      try simp only [Act.put, List.getElem_toArray, List.getElem_cons_zero, List.getElem_cons_succ, List.setIfInBounds_toArray, List.set_cons_zero, List.set_cons_succ]
      refine wpAnyH_take (i := 2) (v := .bool false) rfl (by kernel_rfl) (by kernel_rfl) (by kernel_rfl) (fun _ _ _ h => h) (yields_neq (by rfl) 42 42 (.tmp 71) (.tmp 72) rfl (bs nn) (bs nn) rfl rfl eqg42 true (fun w => by rw [equal_bytes 42 5 64 Try.underlying42 Try.underlying5 size5 cells5' nn nn HNN.out HNN.out w]; simp)) hS ?_
      try simp only [Act.put, List.getElem_toArray, List.getElem_cons_zero, List.getElem_cons_succ, List.setIfInBounds_toArray, List.set_cons_zero, List.set_cons_succ]
      refine wpAnyH_take (i := 3) (v := .bool false) rfl (by kernel_rfl) (by kernel_rfl) (by kernel_rfl) (fun _ _ _ h => h) (Or.inl ⟨by rfl, fun w _ => by go_simp⟩) hS ?_
      try simp only [Act.put, List.getElem_toArray, List.getElem_cons_zero, List.getElem_cons_succ, List.setIfInBounds_toArray, List.set_cons_zero, List.set_cons_succ]
      refine wpAnyH_take (i := 4) (v := .bool fd) rfl (by kernel_rfl) (by kernel_rfl) (by kernel_rfl) (fun _ _ _ h => h) (Or.inl ⟨by rfl, fun w _ => by go_simp⟩) hS ?_
      try simp only [Act.put, List.getElem_toArray, List.getElem_cons_zero, List.getElem_cons_succ, List.setIfInBounds_toArray, List.set_cons_zero, List.set_cons_succ]
      refine wpAnyH_take (i := 5) (v := .bool fd) rfl (by kernel_rfl) (by kernel_rfl) (by kernel_rfl) (fun _ _ _ h => h) (Or.inl ⟨by rfl, fun w _ => by go_simp⟩) hS ?_
      try simp only [Act.put, List.getElem_toArray, List.getElem_cons_zero, List.getElem_cons_succ, List.setIfInBounds_toArray, List.set_cons_zero, List.set_cons_succ]
      refine wpAnyH_take (i := 6) (v := .bool false) rfl (by kernel_rfl) (by kernel_rfl) (by kernel_rfl) (fun _ _ _ h => h) (Or.inl ⟨by rfl, fun w _ => by cases fd <;> go_simp⟩) hS ?_
      try simp only [Act.put, List.getElem_toArray, List.getElem_cons_zero, List.getElem_cons_succ, List.setIfInBounds_toArray, List.set_cons_zero, List.set_cons_succ]
      refine wpAnyH_take (i := 7) (v := .bool false) rfl (by kernel_rfl) (by kernel_rfl) (by kernel_rfl) (fun _ _ _ h => h) (Or.inl ⟨by rfl, fun w _ => by go_simp⟩) hS ?_
      try simp only [Act.put, List.getElem_toArray, List.getElem_cons_zero, List.getElem_cons_succ, List.setIfInBounds_toArray, List.set_cons_zero, List.set_cons_succ]
      refine wpAnyH_take (i := 8) (v := .bool false) rfl (by kernel_rfl) (by kernel_rfl) (by kernel_rfl) (fun _ _ _ h => h) (Or.inl ⟨by rfl, fun w _ => by go_simp⟩) hS ?_
      try simp only [Act.put, List.getElem_toArray, List.getElem_cons_zero, List.getElem_cons_succ, List.setIfInBounds_toArray, List.set_cons_zero, List.set_cons_succ]
      refine wpAnyH_take (i := 9) (v := .pointer (some ⟨s, 0, none⟩)) rfl (by kernel_rfl) (by kernel_rfl) (by kernel_rfl) (fun _ _ _ h => h) (Or.inl ⟨by rfl, fun w _ => by go_simp⟩) hS ?_
      try simp only [Act.put, List.getElem_toArray, List.getElem_cons_zero, List.getElem_cons_succ, List.setIfInBounds_toArray, List.set_cons_zero, List.set_cons_succ]
      refine wpAnyH_take (i := 10) (v := .pointer (some ⟨X6, 0, none⟩)) rfl (by kernel_rfl) (by kernel_rfl) (by kernel_rfl) (fun _ _ _ h => h) (Or.inl ⟨by rfl, fun w _ => by go_simp⟩) hS ?_
      try simp only [Act.put, List.getElem_toArray, List.getElem_cons_zero, List.getElem_cons_succ, List.setIfInBounds_toArray, List.set_cons_zero, List.set_cons_succ]
      refine wpAnyH_take (i := 11) (v := .int .u16 x.pg) rfl (by kernel_rfl) (by kernel_rfl) (by kernel_rfl) (fun _ _ _ h => h) (Or.inl ⟨by rfl, fun w h => by have c := (op_at h.2.2.2.1 HXT.out HO.out.2.1).1; go_simp⟩) hS ?_
      try simp only [Act.put, List.getElem_toArray, List.getElem_cons_zero, List.getElem_cons_succ, List.setIfInBounds_toArray, List.set_cons_zero, List.set_cons_succ]
      refine wpAnyH_take (i := 13) (v := .agg (bs bb)) rfl (by kernel_rfl) (by kernel_rfl) (by kernel_rfl) (fun _ _ _ h => h) (yields_row (by rfl) 41 (.tmp 9) rfl X9 rfl 41 (bs bb) (fun w h => h.2.1) 64 5 Try.underlying41 size41 (by rw [bs_size]; exact HBB.out)) hS ?_
      try simp only [Act.put, List.getElem_toArray, List.getElem_cons_zero, List.getElem_cons_succ, List.setIfInBounds_toArray, List.set_cons_zero, List.set_cons_succ]
      refine wpAnyH_take (i := 14) (v := .agg (bs nn)) rfl (by kernel_rfl) (by kernel_rfl) (by kernel_rfl) (fun _ _ _ h => h) (yields_row (by rfl) 41 (.tmp 10) rfl (X9 + 1) rfl 41 (bs nn) (fun w h => h.2.2.1) 64 5 Try.underlying41 size41 (by rw [bs_size]; exact HNN.out)) hS ?_
      try simp only [Act.put, List.getElem_toArray, List.getElem_cons_zero, List.getElem_cons_succ, List.setIfInBounds_toArray, List.set_cons_zero, List.set_cons_succ]
      refine wpAnyH_ready (rs := [12]) (by kernel_rfl) (by simp) ?_
      refine AllReadyH.cons rfl (fun K hK => ?_) AllReadyH.nil
      go_simp
      go_at_call 20
      refine (HDL.out _ hS.2.2.2.2).mono ?_
      rintro e wk ⟨rfl, bk⟩
      refine hK.out _ _ ⟨hS.1.below bk hS.1.lt, hS.2.1.below bk hS.2.1.lt, hS.2.2.1.below bk hS.2.2.1.lt, hS.2.2.2.1.below bk hS.2.2.2.1.lt, hS.2.2.2.2.trans (bk.mono hS.2.2.2.2.size)⟩ fun hS => ?_
      try simp only [Act.put, List.getElem_toArray, List.getElem_cons_zero, List.getElem_cons_succ, List.setIfInBounds_toArray, List.set_cons_zero, List.set_cons_succ]
      refine wpAnyH_ready (rs := [15]) (by kernel_rfl) (by simp) ?_
      refine AllReadyH.cons rfl (fun K hK => ?_) AllReadyH.nil
      go_simp
      go_at_call 21
      refine (HMK.out _).mono ?_
      rintro e wk ⟨rfl, bk⟩
      refine hK.out _ _ ⟨hS.1.below bk hS.1.lt, hS.2.1.below bk hS.2.1.lt, hS.2.2.1.below bk hS.2.2.1.lt, hS.2.2.2.1.below bk hS.2.2.2.1.lt, hS.2.2.2.2.trans (bk.mono hS.2.2.2.2.size)⟩ fun hS => ?_
      try simp only [Act.put, List.getElem_toArray, List.getElem_cons_zero, List.getElem_cons_succ, List.setIfInBounds_toArray, List.set_cons_zero, List.set_cons_succ]
      refine wpAnyH_take (i := 16) (v := .bool false) rfl (by kernel_rfl) (by kernel_rfl) (by kernel_rfl) (fun _ _ _ h => h) (Or.inl ⟨by rfl, fun w _ => by go_simp⟩) hS ?_
      try simp only [Act.put, List.getElem_toArray, List.getElem_cons_zero, List.getElem_cons_succ, List.setIfInBounds_toArray, List.set_cons_zero, List.set_cons_succ]
      refine wpAnyH_take (i := 17) (v := .bool false) rfl (by kernel_rfl) (by kernel_rfl) (by kernel_rfl) (fun _ _ _ h => h) (Or.inl ⟨by rfl, fun w _ => by go_simp⟩) hS ?_
      try simp only [Act.put, List.getElem_toArray, List.getElem_cons_zero, List.getElem_cons_succ, List.setIfInBounds_toArray, List.set_cons_zero, List.set_cons_succ]
      refine wpAnyH_done (by kernel_rfl) ?_ _
      have cF := c10.below hS.2.2.2.2
      have dF := d10.below hS.2.2.2.2
      have bF := b10.trans (hS.2.2.2.2.mono b10.size)
      go_wp2
      go_roundw
      case rel => exact ⟨i + 1, _, _, _, by go_num, by omega, by omega, cF, dF, HREL2.out, hL2, bF⟩
      case measure => simp [intOf]; omega
    · have hst2 : (¬ (i : Int) < (n : Int)) ∨ ((i : Int) < (n : Int) ∧ ¬ (i : Int) < 30) := by
        by_cases q : (i : Int) < (n : Int)
        · exact Or.inr ⟨q, fun q' => hgo ⟨by omega, by omega⟩⟩
        · exact Or.inl q
      clear hgo
      have hpg := pages_any c1
      have HRI : Hid (L.Pairwise fun p q => p.1 < q.1) := c1.rising
      have hK4 := c1.small
      have HKW : Hid (∀ p ∈ L, Wr p.2 ∧ 0 ≤ p.1 ∧ p.1 ≤ 65535) := c1.wr
      have HA : Hid (∀ w, Calls Try.prog 24 #[] w fun e w' => e = .returned (.bool true) ∧ Below w.heap.size w w') := awake_any
      obtain ⟨PL, HPL⟩ : ∃ PL, Hid (L.map Prod.fst = PL) := ⟨_, rfl⟩
      obtain ⟨K, HK⟩ : ∃ K, Hid (L.length = K) := ⟨_, rfl⟩
      have HPK : Hid (PL.length = K) := by show _ = _; rw [← HPL.out, List.length_map, HK.out]
      have HPR : Hid (PL.Pairwise (· < ·)) := by show List.Pairwise _ _; rw [← HPL.out, List.pairwise_map]; exact HRI.out
      have HPM : Hid (∀ p, hasW os p = true ↔ p ∈ PL) := fun p => by rw [← HREL.out.has, ← HPL.out]; exact hasP_mem L p
      have HPB : Hid (∀ p ∈ PL, 0 ≤ p ∧ p ≤ 65535) := fun p hp => by
        rw [← HPL.out] at hp
        obtain ⟨q, hq, rfl⟩ := List.mem_map.1 hp
        exact (HKW.out q hq).2
      rw [HK.out, HPL.out] at hpg
      rw [HK.out] at hK4
      have HPP : Hid (∀ W, Below wr.heap.size wr W → Calls Try.prog 23 #[.pointer (some ⟨r, 0, none⟩)] W fun e w' => Paged W PL e w') := fun W hW => wpages_any (d1.below hW) PL HPR.out HPM.out HPB.out (by rw [HPK.out]; exact hK4)
      clear c1 d1 hlo hle99
      rcases hst2 with g1' | ⟨g1', g2'⟩
      all_goals (
      (go_upto_region 16 with (first
         | (go_at_call 22; refine hpg.mono ?_; clear hpg; rintro e W2 ⟨ga, cap2, cur, rfl, uP, hb2, hga⟩; have hq := HPP.out W2 hb2)
         | (go_at_call 23; refine hq.mono ?_; clear hq; rintro e W3 ⟨vv, rfl, oV, hb3⟩))
       obtain ⟨oaV, capV, hvV, hcV⟩ := oV.form
       rw [HPK.out] at hvV
       subst hvV
       have HCV : Hid _ := hcV
       have uP3 := UAtb uP hb3 uP.row.lt
       have b2 := b1.trans (hb2.mono b1.size)
       have b3 := b2.trans (hb3.mono b2.size)
       clear hcV oV hb2 hb3 b1 b2 hga uP HPP
       go_wp2
       go_loopw [100] (fun d wr => ∃ k : Nat, d = .int .i64 k ∧ k ≤ K ∧ Below W3.heap.size W3 wr) (fun d _ => K - (intOf d).toNat)
       case atStart => exact ⟨0, rfl, by omega, Below.refl _ _⟩
       case round =>
         obtain ⟨k, rfl, hk, hb⟩ := hrel
         by_cases hkK : k < K
         · have hkK' : (k : Int) < (K : Int) := by omega
           obtain ⟨p, hp⟩ : ∃ p, PL[k]? = some p := ⟨_, List.getElem?_eq_getElem (by rw [HPK.out]; exact hkK)⟩
           have cu := (UAtb uP3 hb uP3.row.lt).cell k p hp
           obtain ⟨gV, rfl, cv0⟩ := HCV.out k p hp
           have cv := cell_keep cv0 hb
           clear cv0
           go_upto_region 21 with fail
           go_quiet (fail)
           go_wp2
           go_roundw
           case rel => exact ⟨k + 1, by go_num, by omega, below_drewN0 hb _⟩
           case measure => simp [intOf]; omega
         · have hkK' : ¬ (k : Int) < (K : Int) := by omega
           have b4 := b3.trans (hb.mono b3.size)
           clear hb
           go_wp2_with (go_at_call 24; refine (HA.out _).mono ?_; rintro e w16 ⟨rfl, b16⟩)
           go_ret
           exact ⟨rfl, b4.trans (b16.mono b4.size)⟩))
end Go.Proofs.Ytmnbfcmamhinbab.Ws
