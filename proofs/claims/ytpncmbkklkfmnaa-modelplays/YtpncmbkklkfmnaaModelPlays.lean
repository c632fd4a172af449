/-
  ModelPlays: whatever calls are done, one behind the other, are answered as the document says, and all versions are as it says. No conditions.
-/
import Derived.Test.YtpncmbkklkfmnaaMsp
namespace Go.Proofs.Ytpncmbkklkfmnaa.modelPlays
open Go.ChangeShapes Go.WideShapes Go.ChangeAt Go.RowKit
open Go.Deep
set_option linter.unusedVariables false
set_option linter.unusedSimpArgs false

theorem own : ownKnob Try.prog.godebug = none := by kernel_rfl

set_option maxRecDepth 20000

set_option maxHeartbeats 16000000 in
theorem walk (w : World) (pages mx : Int) (v : Value) (cs : List Cal) (hpw : (Lit.int .i64 pages).wf = true) (hmw : (Lit.int .u32 mx).wf = true) (hcs : Cals w v cs) :
    Calls Try.prog 3 #[.int .i64 pages, .int .u32 mx, v] w fun e w' => e = .returned (.bool true) ∧ Below w.heap.size w w' := by
  have hp := bound_i64 hpw
  have hm := bound_u32 hmw
  clear hpw hmw
  obtain ⟨oa, cap, rfl, hcap_oa, hlen_oa, hel_oa⟩ := hcs
  have HEL_oa : Hid (∀ i, i < cs.length → ∃ (a : Addr) (c : Cal), oa = some a ∧ cs[i]? = some c ∧ c.Ok ∧ ∀ j u, c.cells[j]? = some u → w.cell? ((a.add (i * 5)).add j) = some u) := hel_oa
  obtain ⟨n1, HN_oa⟩ : ∃ n1, Hid (Nat.min cs.length 40 = n1) := ⟨_, rfl⟩
  have HSM_oa : Hid (∀ W, Calls Try.prog 11 #[.slice oa cs.length cap] W fun r w' => r = .returned (.slice oa n1 cap) ∧ w' = W) := fun W => by
    have := small_any _ oa cs.length cap rfl hcap_oa (by omega) W
    rw [HN_oa.out] at this
    simpa using this
  have hn40_oa : n1 ≤ 40 := by rw [← HN_oa.out]; exact Nat.min_le_right _ _
  have HNL_oa : Hid (n1 ≤ cs.length) := by rw [← HN_oa.out]; exact Nat.min_le_left _ _
  clear hel_oa hlen_oa hcap_oa
  have HAW : Hid (∀ W, Calls Try.prog 10 #[] W fun r w' => r = .returned (.bool true) ∧ Below W.heap.size W w') := fun W => awake_any W
  obtain ⟨PP, HPP⟩ : ∃ PP : Ending → World → Prop, Hid (PP = fun e w' => e = .returned (.bool true) ∧ Below w.heap.size w w') := ⟨_, rfl⟩
  rw [← HPP.out]
  have haw := HAW.out w
  by_cases h1 : pages < 1
  · have hn := new_none pages hp.1 hp.2 (Or.inl h1) mx w
    go_enter Try.func3, Try.ntmps3
    go_wp2_with (first
      | (go_at_call 9; refine Calls.mono hn ?_; clear hn; rintro e W1 ⟨he, hww⟩; rw [hww]; clear hww W1; obtain rfl := he)
      | (go_at_call 10; refine Calls.mono haw ?_; clear haw; rintro e W1 ⟨he, hb⟩; obtain rfl := he))
    rw [HPP.out]
    exact ⟨rfl, hb⟩
  by_cases h16 : pages > 16
  · have hn := new_none pages hp.1 hp.2 (Or.inr h16) mx w
    go_enter Try.func3, Try.ntmps3
    go_wp2_with (first
      | (go_at_call 9; refine Calls.mono hn ?_; clear hn; rintro e W1 ⟨he, hww⟩; rw [hww]; clear hww W1; obtain rfl := he)
      | (go_at_call 10; refine Calls.mono haw ?_; clear haw; rintro e W1 ⟨he, hb⟩; obtain rfl := he))
    rw [HPP.out]
    exact ⟨rfl, hb⟩
  clear haw
  obtain ⟨n, HNP⟩ : ∃ n : Nat, (n : Int) = pages := ⟨pages.toNat, by omega⟩
  subst HNP
  have hn := new_some n (by omega) (by omega) mx hm.1 hm.2 w
  have bu := built30 n mx
  have tb : Hid (1 = 1) := rfl
  go_enter Try.func3, Try.ntmps3
  go_upto_region 7 with (first
    | (go_at_call 9; refine Calls.mono hn ?_; clear hn; rintro e W1 hnm; obtain ⟨g, rfl, ms0⟩ := MS.start hnm; clear hnm)
    | (have hh := tb; clear hh tb; refine build_cells rfl 30 #[(0, .tmp 29), (1, .tmp 30)] rfl [(0, .int .i64 n), (1, .int .u32 mx)] rfl _ bu ?_))
  generalize (fun k => w.heap.size ≤ k ∧ k < W1.heap.size) = F0 at ms0
  have tw0 := Two.start ms0
  clear ms0 bu
  generalize W1.alloc (.cells #[.int .i64 n, .int .u32 mx, .slice none 0 0] 30) = W2 at tw0 ⊢
  generalize W1.heap.size = r at tw0 ⊢
  have hs := HSM_oa.out W2
  go_upto_region 8 with (first
    | (go_at_call 11; refine Calls.mono hs ?_; clear hs; rintro e W3 ⟨he, hww⟩; rw [hww]; clear hww W3; obtain rfl := he))
  clear HSM_oa
  go_loopw [10, 36] (fun _ i wr => ∃ (j : Nat) (s : St) (F : Nat → Prop) (vv : Value) (ds : List Dn), i = .int .i64 j ∧ j ≤ n1 ∧ Two w F g s r n mx vv ds wr ∧ Hid (ds.length = j)) (fun _ i _ => n1 - (intOf i).toNat)
  case atStart => exact ⟨0, _, F0, _, [], rfl, Nat.zero_le _, tw0, rfl⟩
  case round =>
    clear tw0
    obtain ⟨j, s, F, vv, ds, rfl, hj, tw, HDL⟩ := hrel
    by_cases hlt : (j : Int) < n1
    · obtain ⟨a, c, rfl, hcj, hcok, hcell⟩ := HEL_oa.out j (by have := HNL_oa.out; omega)
      have hcell2 : ∀ i u, c.cells[i]? = some u → wr.cell? ((a.add (j * 5)).add i) = some u := fun i u h => cell_keep (hcell i u h) tw.ms.bel
      have hz35 := zero35
      have rn : Row (wr.alloc (.cells #[.int .u8 0, .int .u64 0, .int .u16 0, .int .i64 0, .string ⟨#[]⟩] 35)) wr.heap.size #[.int .u8 0, .int .u64 0, .int .u16 0, .int .i64 0, .string ⟨#[]⟩] 35 := Row.new _ _ _
      have HRL : Hid ((doR s c).body.length = 64) := doR_len tw.ms.at_.ok hcok
      obtain ⟨CE, HCE⟩ : ∃ CE, Hid (c.arr = CE) := ⟨_, rfl⟩
      have HAR : Hid (c.cells.toArray = CE) := by rw [← HCE.out]; rfl
      have HCS : Hid (CE.size = 5) := by rw [← HCE.out]; rfl
      have HCO : Hid (CE.all (·.oneCell') = true) := by rw [← HCE.out]; exact c.one
      have HOK : Hid c.Ok := hcok
      have HFW : Hid (ds.length < 40) := by show _ < _; rw [HDL.out]; omega
      have b3 : Below wr.heap.size wr ((wr.alloc (.cells #[.int .u8 0, .int .u64 0, .int .u16 0, .int .i64 0, .string ⟨#[]⟩] 35)).setRow wr.heap.size CE) := below_setRow ((Below.refl _ _).alloc (Nat.le_refl _) _) (Nat.le_refl _) _
      have rX : Row ((wr.alloc (.cells #[.int .u8 0, .int .u64 0, .int .u16 0, .int .i64 0, .string ⟨#[]⟩] 35)).setRow wr.heap.size CE) wr.heap.size CE 35 := rn.set _
      have nX := tw.ms.fresh
      have tw3 := tw.below b3
      have hw1 : IntKind.i64.wrap ((j : Int) + 1) = ((j + 1 : Nat) : Int) := by rw [IntKind.wrap_i64]; omega
      clear hcell hcj hcok tw
      have tl : Hid (1 = 1) := rfl
      have ts : Hid (1 = 1) := rfl
      go_upto_region 10 with (first
        | (have hh := tl; clear hh tl; refine wpList_load_any rfl 35 (.tmp 38) rfl _ rfl c.cells _ hcell2 Try.underlying35 rfl (by rw [size35]; rfl) ?_; rw [HAR.out])
        | (have hh := ts; clear hh ts; refine store_cells rfl 35 (.tmp 10) (.tmp 39) rfl wr.heap.size CE rfl rfl 35 _ rn 5 size35 rfl HCS.out HCO.out ?_))
      clear rn hcell2 b3 hz35
      generalize (wr.alloc (.cells #[.int .u8 0, .int .u64 0, .int .u16 0, .int .i64 0, .string ⟨#[]⟩] 35)).setRow wr.heap.size CE = W3 at rX tw3 ⊢
      generalize wr.heap.size = X at rX nX ⊢
      obtain ⟨RA, HRA⟩ : ∃ RA, Hid ((doR s c).arr = RA) := ⟨_, rfl⟩
      obtain ⟨LS, HLS⟩ : ∃ LS, Hid ((doS s c).last = LS) := ⟨_, rfl⟩
      have heq : ∀ w, (Op.equalIn 10000 40 (.agg RA) (.agg RA)).run Try.prog w = .ok true w := fun w => by rw [← HRA.out, equal40 _ _ HRL.out HRL.out]; simp
      refine wp_region_held_drew (S := fun w' => Row w' X CE 35) (by kernel_rfl) rX fun hS => ?_
      have tw4 : Two w F g s r n mx vv ds W3.drew := tw3.below (below_drew W3)
      clear tw3
      generalize W3.drew = W3d at hS tw4 ⊢
      have hc12 := tw4.call c HOK.out
      rw [HCE.out, HRA.out] at hc12
      refine wpAnyH_take (i := 0) (v := .pointer (some ⟨g, 0, none⟩)) rfl (by kernel_rfl) (by kernel_rfl) (by kernel_rfl) (fun _ _ _ h => h) (Or.inl ⟨by rfl, fun w _ => by go_simp⟩) hS ?_
      try simp only [Act.put, List.getElem_toArray, List.getElem_cons_zero, List.getElem_cons_succ, List.setIfInBounds_toArray, List.set_cons_zero, List.set_cons_succ]
      refine wpAnyH_take (i := 1) (v := .agg CE) rfl (by kernel_rfl) (by kernel_rfl) (by kernel_rfl) (fun _ _ _ h => h) (yields_cells (by rfl) 35 (.tmp 10) rfl X rfl 35 CE (fun w h => h) 5 Try.underlying35 rfl size35 HCS.out) hS ?_
      try simp only [Act.put, List.getElem_toArray, List.getElem_cons_zero, List.getElem_cons_succ, List.setIfInBounds_toArray, List.set_cons_zero, List.set_cons_succ]
      refine wpAnyH_take (i := 3) (v := .pointer (some ⟨r, 0, none⟩)) rfl (by kernel_rfl) (by kernel_rfl) (by kernel_rfl) (fun _ _ _ h => h) (Or.inl ⟨by rfl, fun w _ => by go_simp⟩) hS ?_
      try simp only [Act.put, List.getElem_toArray, List.getElem_cons_zero, List.getElem_cons_succ, List.setIfInBounds_toArray, List.set_cons_zero, List.set_cons_succ]
      refine wpAnyH_take (i := 4) (v := .agg CE) rfl (by kernel_rfl) (by kernel_rfl) (by kernel_rfl) (fun _ _ _ h => h) (yields_cells (by rfl) 35 (.tmp 10) rfl X rfl 35 CE (fun w h => h) 5 Try.underlying35 rfl size35 HCS.out) hS ?_
      try simp only [Act.put, List.getElem_toArray, List.getElem_cons_zero, List.getElem_cons_succ, List.setIfInBounds_toArray, List.set_cons_zero, List.set_cons_succ]
      refine wpAnyH_ready (rs := [2]) (by kernel_rfl) (by simp) ?_
      refine AllReadyH.cons rfl (fun K hK => ?_) AllReadyH.nil
      go_simp
      go_at_call 12
      refine Calls.mono (hc12) ?_
      rintro e W4 ⟨he, F4, hh4, of4, ff4⟩
      obtain rfl := he
      have rX4 := hS.off of4 nX
      have hc13 := hh4.call HOK.out HFW.out
      rw [HCE.out, HRA.out] at hc13
      refine hK.out _ _ (rX4) fun hS => ?_
      try simp only [Act.put, List.getElem_toArray, List.getElem_cons_zero, List.getElem_cons_succ, List.setIfInBounds_toArray, List.set_cons_zero, List.set_cons_succ]
      refine wpAnyH_ready (rs := [5]) (by kernel_rfl) (by simp) ?_
      refine AllReadyH.cons rfl (fun K hK => ?_) AllReadyH.nil
      go_simp
      go_at_call 13
      refine Calls.mono (hc13) ?_
      rintro e W5 ⟨he, v5, tw5, of5⟩
      obtain rfl := he
      have rX5 := rX4.off of5 (hh4.rm.free (row_is rX4) (by decide) (by decide))
      have hc14 := tw5.last
      rw [HLS.out] at hc14
      refine hK.out _ _ (rX5) fun hS => ?_
      try simp only [Act.put, List.getElem_toArray, List.getElem_cons_zero, List.getElem_cons_succ, List.setIfInBounds_toArray, List.set_cons_zero, List.set_cons_succ]
      refine wpAnyH_take (i := 6) (v := .bool false) rfl (by kernel_rfl) (by kernel_rfl) (by kernel_rfl) (fun _ _ _ h => h) (Or.inl ⟨by rfl, fun w _ => by have c := heq; go_simp⟩) hS ?_
      try simp only [Act.put, List.getElem_toArray, List.getElem_cons_zero, List.getElem_cons_succ, List.setIfInBounds_toArray, List.set_cons_zero, List.set_cons_succ]
      refine wpAnyH_take (i := 7) (v := .bool false) rfl (by kernel_rfl) (by kernel_rfl) (by kernel_rfl) (fun _ _ _ h => h) (Or.inl ⟨by rfl, fun w _ => by go_simp⟩) hS ?_
      try simp only [Act.put, List.getElem_toArray, List.getElem_cons_zero, List.getElem_cons_succ, List.setIfInBounds_toArray, List.set_cons_zero, List.set_cons_succ]
      refine wpAnyH_take (i := 8) (v := .pointer (some ⟨g, 0, none⟩)) rfl (by kernel_rfl) (by kernel_rfl) (by kernel_rfl) (fun _ _ _ h => h) (Or.inl ⟨by rfl, fun w _ => by go_simp⟩) hS ?_
      try simp only [Act.put, List.getElem_toArray, List.getElem_cons_zero, List.getElem_cons_succ, List.setIfInBounds_toArray, List.set_cons_zero, List.set_cons_succ]
      refine wpAnyH_take (i := 10) (v := .pointer (some ⟨r, 0, none⟩)) rfl (by kernel_rfl) (by kernel_rfl) (by kernel_rfl) (fun _ _ _ h => h) (Or.inl ⟨by rfl, fun w _ => by go_simp⟩) hS ?_
      try simp only [Act.put, List.getElem_toArray, List.getElem_cons_zero, List.getElem_cons_succ, List.setIfInBounds_toArray, List.set_cons_zero, List.set_cons_succ]
      refine wpAnyH_ready (rs := [9]) (by kernel_rfl) (by simp) ?_
      refine AllReadyH.cons rfl (fun K hK => ?_) AllReadyH.nil
      go_simp
      go_at_call 14
      refine Calls.mono (hc14) ?_
      rintro e W6 ⟨he, hww⟩
      rw [hww]
      clear hww W6
      obtain rfl := he
      have hc15 := tw5.rlast
      rw [HLS.out] at hc15
      refine hK.out _ _ (rX5) fun hS => ?_
      try simp only [Act.put, List.getElem_toArray, List.getElem_cons_zero, List.getElem_cons_succ, List.setIfInBounds_toArray, List.set_cons_zero, List.set_cons_succ]
      refine wpAnyH_ready (rs := [11]) (by kernel_rfl) (by simp) ?_
      refine AllReadyH.cons rfl (fun K hK => ?_) AllReadyH.nil
      go_simp
      go_at_call 15
      refine Calls.mono (hc15) ?_
      rintro e W7 ⟨he, hb7⟩
      obtain rfl := he
      have tw7 := tw5.below hb7
      have rX7 := rX5.below hb7 rX5.lt
      refine hK.out _ _ (rX7) fun hS => ?_
      try simp only [Act.put, List.getElem_toArray, List.getElem_cons_zero, List.getElem_cons_succ, List.setIfInBounds_toArray, List.set_cons_zero, List.set_cons_succ]
      refine wpAnyH_take (i := 12) (v := .bool false) rfl (by kernel_rfl) (by kernel_rfl) (by kernel_rfl) (fun _ _ _ h => h) (Or.inl ⟨by rfl, fun w _ => by have c : (LS != LS) = false := (by simp); go_simp⟩) hS ?_
      try simp only [Act.put, List.getElem_toArray, List.getElem_cons_zero, List.getElem_cons_succ, List.setIfInBounds_toArray, List.set_cons_zero, List.set_cons_succ]
      refine wpAnyH_take (i := 13) (v := .bool false) rfl (by kernel_rfl) (by kernel_rfl) (by kernel_rfl) (fun _ _ _ h => h) (Or.inl ⟨by rfl, fun w _ => by go_simp⟩) hS ?_
      try simp only [Act.put, List.getElem_toArray, List.getElem_cons_zero, List.getElem_cons_succ, List.setIfInBounds_toArray, List.set_cons_zero, List.set_cons_succ]
      refine wpAnyH_done (by kernel_rfl) ?_ _
      have HDL2 : Hid ((ds ++ [(⟨c, doR s c⟩ : Dn)]).length = j + 1) := by show _ = _; rw [List.length_append, HDL.out]; rfl
      clear heq hS rX4 rX5 rX7 hh4 of4 ff4 of5 tw4 tw5 hb7 nX
      go_wp2
      go_roundw
      case rel => exact ⟨j + 1, _, F4, v5, _, by first | rfl | simp, by omega, tw7, HDL2⟩
      case measure => simp only [intOf]; omega
    · clear HEL_oa HNL_oa
      have hlo : 0 ≤ s.last := tw.ms.at_.ok.lo
      have hhi : s.last ≤ 4294967295 := by have := tw.ms.at_.ok.hi; have := tw.ms.at_.ok.mx; omega
      go_upto_region 14 with fail
      go_loopw [11, 12] (fun i _ wr => ∃ p : Nat, i = .int .i64 p ∧ p ≤ n + 1 ∧ p ≤ 5 ∧ Two w F g s r n mx vv ds wr) (fun i _ _ => 5 - (intOf i).toNat)
      case atStart => exact ⟨0, rfl, Nat.zero_le _, Nat.zero_le _, tw⟩
      case round =>
        clear tw
        obtain ⟨p, rfl, hpn, hp5, tw⟩ := hrel
        by_cases hple : (p : Int) ≤ n
        · by_cases hpl : (p : Int) < 5
          · have hwp : IntKind.u16.wrap (p : Int) = (p : Int) := by rw [IntKind.wrap_u16]; omega
            have hw1 : IntKind.i64.wrap ((p : Int) + 1) = ((p + 1 : Nat) : Int) := by rw [IntKind.wrap_i64]; omega
            go_upto_region 17 with fail
            rename World => wo
            go_loopw [12] (fun i wr => ∃ q : Nat, i = .int .u32 q ∧ q ≤ 6 ∧ Two w F g s r n mx vv ds wr) (fun i _ => 6 - (intOf i).toNat)
            case atStart => exact ⟨0, rfl, Nat.zero_le _, tw⟩
            case round =>
              clear tw
              obtain ⟨q, rfl, hq6, tw⟩ := hrel
              have hc15 := tw.rlast
              by_cases hqle : (q : Int) ≤ s.last
              · by_cases hql : (q : Int) < 6
                · have hw2 : IntKind.u32.wrap ((q : Int) + 1) = ((q + 1 : Nat) : Int) := by rw [IntKind.wrap_u32]; omega
                  have HVO := tw.vok (p : Int) (q : Int) (by omega) (by omega)
                  have heq : ∀ w, (Op.equalIn 10000 44 (.agg (atV (s.pg p) q).arr) (.agg (atV (s.pg p) q).arr)).run Try.prog w = .ok true w := fun w => by rw [equal44 _ _ HVO.wr.1 HVO.wr.1]; simp
                  have HA16 : Hid (∀ W, Two w F g s r n mx vv ds W → Calls Try.prog 16 #[.pointer (some ⟨g, 0, none⟩), .int .u16 (p : Int), .int .u32 (q : Int)] W fun e W' => e = .returned (.agg (atV (s.pg p) q).arr) ∧ Below W.heap.size W W') := fun W t => t.at_ p q (by omega) (by omega) (by omega)
                  have HA17 : Hid (∀ W, Two w F g s r n mx vv ds W → Calls Try.prog 17 #[.pointer (some ⟨r, 0, none⟩), .int .u16 (p : Int), .int .u32 (q : Int)] W fun e W' => e = .returned (.agg (atV (s.pg p) q).arr) ∧ Below W.heap.size W W') := fun W t => t.rat p q (by omega) (by omega)
                  obtain ⟨VA, HVA⟩ : ∃ VA, Hid ((atV (s.pg p) q).arr = VA) := ⟨_, rfl⟩
                  rw [HVA.out] at heq HA16 HA17
                  clear HVO
                  go_wp2_with (first
                    | (have hh := hc15; clear hh; go_at_call 15; refine Calls.mono hc15 ?_; clear hc15; rintro e Wa ⟨he, hb⟩; obtain rfl := he; have tw := tw.below hb; clear hb; have hc16 := HA16.out Wa tw)
                    | (have hh := hc16; clear hh; go_at_call 16; refine Calls.mono hc16 ?_; clear hc16; rintro e Wb ⟨he, hb⟩; obtain rfl := he; have tw := tw.below hb; clear hb; have hc17 := HA17.out Wb tw)
                    | (have hh := hc17; clear hh; go_at_call 17; refine Calls.mono hc17 ?_; clear hc17; rintro e Wc ⟨he, hb⟩; obtain rfl := he; have tw := tw.below hb; clear hb))
                  go_roundw
                  case rel => exact ⟨q + 1, by first | rfl | simp, by omega, tw⟩
                  case measure => simp only [intOf]; omega
                · go_wp2_with (first
                    | (have hh := hc15; clear hh; go_at_call 15; refine Calls.mono hc15 ?_; clear hc15; rintro e Wa ⟨he, hb⟩; obtain rfl := he; have tw := tw.below hb; clear hb))
                  go_roundw
                  case rel => exact ⟨p + 1, by first | rfl | simp, by omega, by omega, tw⟩
                  case measure => simp only [intOf]; omega
              · go_wp2_with (first
                  | (have hh := hc15; clear hh; go_at_call 15; refine Calls.mono hc15 ?_; clear hc15; rintro e Wa ⟨he, hb⟩; obtain rfl := he; have tw := tw.below hb; clear hb))
                go_roundw
                case rel => exact ⟨p + 1, by first | rfl | simp, by omega, by omega, tw⟩
                case measure => simp only [intOf]; omega
          · have haw := HAW.out wr
            have hbel := tw.ms.bel
            clear tw
            go_wp2_with (first
              | (go_at_call 10; refine Calls.mono haw ?_; clear haw; rintro e Wz ⟨he, hb⟩; obtain rfl := he))
            rw [HPP.out]
            exact ⟨rfl, hbel.trans (hb.mono hbel.size)⟩
        · have haw := HAW.out wr
          have hbel := tw.ms.bel
          clear tw
          go_wp2_with (first
            | (go_at_call 10; refine Calls.mono haw ?_; clear haw; rintro e Wz ⟨he, hb⟩; obtain rfl := he))
          rw [HPP.out]
          exact ⟨rfl, hbel.trans (hb.mono hbel.size)⟩

set_option maxRecDepth 100000 in
theorem lifted (os : Os) (started : os.Started) (H : Type) (enc : TypeId × Value → H) :
    ReturnsInHanded {} Try.checked os 3 .any (Rows.modelPlaysSpec.pre6 enc Try.prog Try.f3 Rows.modelPlaysRow.domain false) (Rows.modelPlaysSpec.post enc Try.prog Try.f3 false true false false) := by
  refine returnsInHanded_of_change_sized (C := Try.checked) own started (by kernel_rfl) Try.func3
    (ChangeSpec.witness6 (enc := enc) (C := Try.checked) false ⟨#[], #[.int .i64 0, .int .u32 0, .slice none 0 0], []⟩ 8 (by kernel_rfl) (by kernel_rfl) (by kernel_rfl) (by kernel_rfl)) ?_
  intro W base args ds gs before hval0 hW hcnd hsz0 _
  have hval : ∀ (j : Nat) t v, Try.f3.params[j]? = some t → args[j]? = some v → Value.okWide Try.prog W .any base t v := hval0
  have hW' := hW
  obtain ⟨p, q, hA0, hV, rfl, hfz, hnd⟩ := hW
  have hA : DataW.TrodAll enc Try.prog W 0 (fun _ => true) true Try.f3.params.toList args.toList ds p := hA0
  have hsz : (DataW.weightsEach Try.prog (Try.f3.params.toList ++ []) (ds ++ gs)).all (· ≤ reachBytes) = true := hsz0
  rw [Try.params3] at hA hval hsz
  obtain ⟨v0, vs0, d0, ds0, p0, q0, hargs, rfl, rfl, h0, r0⟩ := trodAll_cons hA
  obtain ⟨v1, vs1, d1, ds1, p1, q1, rfl, rfl, rfl, h1, r1⟩ := trodAll_cons r0
  obtain ⟨v2, vs2, d2, ds2, p2, q2, rfl, rfl, rfl, h2, r2⟩ := trodAll_cons r1
  obtain ⟨rfl, rfl, rfl⟩ := trodAll_nil r2
  obtain rfl : args = #[v0, v1, v2] := by cases args; simp_all
  obtain ⟨rfl, rfl⟩ := trodVars_none hV
  simp only [List.append_nil] at hsz
  have hlt : ∀ x ∈ (p0 ++ (p1 ++ (p2 ++ []))), x.block < W.heap.size := fun x hx => hW'.lt x (by simpa using hx)
  have hw0 : (d0.weights Try.prog 3).all (· ≤ reachBytes) = true := List.all_eq_true.2 fun m hm => List.all_eq_true.1 hsz m (by simp [DataW.weightsEach, hm])
  have hw1 : (d1.weights Try.prog 22).all (· ≤ reachBytes) = true := List.all_eq_true.2 fun m hm => List.all_eq_true.1 hsz m (by simp [DataW.weightsEach, hm])
  have hw2 : (d2.weights Try.prog 23).all (· ≤ reachBytes) = true := List.all_eq_true.2 fun m hm => List.all_eq_true.1 hsz m (by simp [DataW.weightsEach, hm])
  have k0 := h0
  have k1 := h1
  have k2 := h2
  obtain ⟨a0, rfl, rfl, rfl, w0⟩ := open_int Try.underlying3 (hval 0 3 v0 rfl rfl) h0
  obtain ⟨a1, rfl, rfl, rfl, w1⟩ := open_int Try.underlying22 (hval 1 22 v1 rfl rfl) h1
  obtain ⟨a2, w2⟩ := open_mcals (hval 2 23 v2 rfl rfl) h2 hw2
  clear hA0 hval0
  simp only [List.append_nil] at hW'
  refine (walk W a0 a1 v2 a2 w0 w1 w2).mono fun e W' ⟨he, hg⟩ => ?_
  subst he
  exact ⟨_, rfl, ⟨_, _, _, [], ([] ++ ([] ++ (p2 ++ []))), [], hW', (trodAll_cons_mk (shut_bool Try.underlying4 _) trodAll_mk0), (trodAll_cons_mk (Below.trod laidOut (by kernel_rfl) (of_decide_eq_true (by kernel_rfl)) k0 hg (fun x hx => (nomatch hx))) (trodAll_cons_mk (Below.trod laidOut (by kernel_rfl) (of_decide_eq_true (by kernel_rfl)) k1 hg (fun x hx => (nomatch hx))) (trodAll_cons_mk (Below.trod laidOut (by kernel_rfl) (of_decide_eq_true (by kernel_rfl)) k2 hg (fun x hx => hlt x (by simp [hx]))) trodAll_mk0))), rfl,
    hg.frame _, fun h => by cases h⟩⟩

theorem over : Rows.modelPlaysRow.holds Try.pinned (OpenSpec.ofChange Rows.modelPlaysSpec) :=
  OpenClaim.holds_of_wide 3 Try.f3 rfl rfl rfl rfl rfl rfl rfl ⟨rfl, rfl, rfl, rfl, rfl⟩ rfl rfl rfl rfl rfl (by kernel_rfl) Try.func3 (by kernel_rfl)
    (of_decide_eq_true (by kernel_rfl)) (by unfold Func.isWrapper; first | (rw [if_pos (by decide +kernel)]; kernel_rfl) | (rw [if_neg (by decide +kernel)]; exact ⟨rfl, rfl⟩))
    (fun os started H enc _ => lifted os started H enc)

/-- The statement. -/
theorem proved : Rows.ModelPlaysSaid :=
  over
#print axioms proved
end Go.Proofs.Ytpncmbkklkfmnaa.modelPlays
