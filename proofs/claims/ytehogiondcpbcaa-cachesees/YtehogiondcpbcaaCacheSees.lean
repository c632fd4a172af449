/-
  CacheSees: a page is seen as it was put last.
-/
import Derived.Test.YtehogiondcpbcaaJq36
import Derived.SizedLaws
import Derived.Deep.Grids
import Derived.Deep.Slices
import Derived.Lib.SmallJoins
import Derived.Carry
import Derived.BigQuiet
namespace Go.Proofs.Ytehogiondcpbcaa.cacheSees
open Go.ChangeShapes Go.WideShapes Go.ChangeAt Go.RowKit
open Go.Deep
set_option linter.unusedVariables false
set_option linter.unusedSimpArgs false
theorem own : ownKnob Try.prog.godebug = none := by kernel_rfl
set_option maxRecDepth 20000
theorem bound_u8 {i : Int} (h : (Lit.int .u8 i).wf = true) : 0 ≤ i ∧ i ≤ 255 := by
  have e : (Lit.int .u8 i).wf = (decide ((0 : Int) ≤ i) && decide (i ≤ 255)) := rfl
  rw [e] at h; simpa using h
theorem size36 : (Try.prog.info? 36).map (·.size) = some 229 := by kernel_rfl
theorem zero48 (w : World) : (zeroValue 48).run Try.prog w = .ok (.agg (bs (zs 7168))) w := (zero_of_info (P := Try.prog) (t := 48) (v := .agg (bs (zs 7168))) (n := 7168) (by kernel_rfl)).1 w
theorem built31b (u : Bool) (no : Int) : (Try.prog.built 31 [(0, .bool u), (1, .int .u16 no)]) = some #[.bool u, .int .u16 no] := by kernel_rfl
def XO.zero : XO := ⟨0, false, 0, 0, .slice none 0 0, [], zs 224⟩
theorem zero36 (w : World) : (zeroValue 36).run Try.prog w = .ok (.agg XO.zero.cells.toArray) w := (zero_of_info (P := Try.prog) (t := 36) (v := .agg XO.zero.cells.toArray) (n := 229) (by kernel_rfl)).1 w
theorem zs_flat : (List.replicate 32 (zs 224)).flatten = zs 7168 := by decide +kernel
def Blk (n : Nat) (ps : List (List Int)) : Prop := ∀ m, m < n → ps[m]? = some (blankP (decide (16 ≤ m)) ((m % 16 : Nat) : Int))
theorem Blk.told {ps : List (List Int)} (h : Blk 32 ps) : Told blankP ps := fun u j hj => by
  cases u with
  | false =>
    have := h j (by omega)
    rw [show decide (16 ≤ j) = false from decide_eq_false (by omega), Nat.mod_eq_of_lt hj] at this
    simpa using this
  | true =>
    have := h (16 + j) (by omega)
    rw [show decide (16 ≤ 16 + j) = true from decide_eq_true (by omega), show (16 + j) % 16 = j by omega] at this
    simpa using this
theorem Blk.next {n : Nat} {ps : List (List Int)} (h : Blk n ps) (hl : ps.length = 32) (hn : n < 32) {p : List Int} (hp : p = blankP (decide (16 ≤ n)) ((n % 16 : Nat) : Int)) : Blk (n + 1) (ps.set n p) := fun m hm => by
  by_cases e : n = m
  · subst e
    rw [List.getElem?_set_self (by omega), hp]
  · rw [List.getElem?_set_ne e]; exact h m (by omega)
set_option maxHeartbeats 8000000 in
theorem walk (w : World) (fr : Int) (v : Value) (cs : List XO) (hfr : (Lit.int .u8 fr).wf = true) (hcs : XOs w v cs) :
    Calls Try.prog 4 #[.int .u8 fr, v] w fun e w' => e = .returned (.bool true) ∧ Below w.heap.size w w' := by
  have hfb := bound_u8 hfr
  clear hfr
  obtain ⟨oa, cap, rfl, hlen, hel⟩ := hcs
  have HEL : Hid (∀ i, i < cs.length → ∃ (a : Addr) (c : XO), oa = some a ∧ cs[i]? = some c ∧ c.Ok w ∧ ∀ j u, c.cells[j]? = some u → w.cell? ((a.add (i * 229)).add j) = some u) := hel
  have HLEN : Hid (cs.length ≤ 140737488355328) := hlen
  clear hel
  obtain ⟨PP, HPP⟩ : ∃ PP : Ending → World → Prop, Hid (PP = fun e w' => e = .returned (.bool true) ∧ Below w.heap.size w w') := ⟨_, rfl⟩
  rw [← HPP.out]
  obtain ⟨n, hn⟩ : ∃ n : Nat, 4 + fr % 6 = (n : Int) := ⟨(4 + fr % 6).toNat, by omega⟩
  have hov := over_any n (by omega) w
  have HAW : Hid (∀ W, Calls Try.prog 14 #[] W fun e w' => e = .returned (.bool true) ∧ Below W.heap.size W w') := fun W => awake_any W
  have hw0 : IntKind.i64.wrap (fr % 6) = fr % 6 := by rw [IntKind.wrap_i64]; omega
  have hw1 : IntKind.i64.wrap (4 + fr % 6) = (n : Int) := by rw [IntKind.wrap_i64]; omega
  have hz48 := zero48
  obtain ⟨Z48, HZ48⟩ : ∃ Z48, Hid (bs (zs 7168) = Z48) := ⟨_, rfl⟩
  rw [HZ48.out] at hz48
  go_enter Try.func4, Try.ntmps4
  go_upto_region 6 with (first
    | (go_at_call 8; refine Calls.mono hov ?_; clear hov; rintro e W1 hq; obtain ⟨gd, gl, gc, gk, ak, F, he, sit⟩ := Sit.start hq; clear hq; obtain rfl := he))
  have tb : TB F (W1.alloc (.cells Z48 48)) W1.heap.size 48 32 (List.replicate 32 (zs 224)) := ⟨⟨by rw [zs_flat, HZ48.out]; exact Row.new _ _ _, fun q => by have := sit.cs.2.1.lt _ q; omega⟩, List.length_replicate, fun p hp => by rw [List.eq_of_mem_replicate hp]; exact zs_length _⟩
  have sit2 := sit.below ((Below.refl _ _).alloc (Nat.le_refl _) (.cells Z48 48))
  have hA8 := sit.cs.1.size
  clear hw0 hw1 hfb hn hz48 sit
  generalize W1.alloc (.cells Z48 48) = W2 at tb sit2 ⊢
  generalize W1.heap.size = A8 at tb hA8 ⊢
  have hbl : Blk 0 (List.replicate 32 (zs 224)) := fun m hm => by omega
  generalize List.replicate 32 (zs 224) = ps at tb hbl
  clear HZ48
  go_loopw [9] (fun i wr => ∃ (q : Int) (ps : List (List Int)), ((q = 0 ∧ Blk 0 ps) ∨ (q = 1 ∧ Blk 16 ps) ∨ (q = 2 ∧ Blk 32 ps)) ∧ i = .int .i64 q ∧ Sit w F gc gd gl gk ak (newC 4 5 n) log0 (Dsk.new 60) 0 blankP wr ∧ TB F wr A8 48 32 ps) (fun i _ => 2 - (intOf i).toNat)
  case atStart => exact ⟨0, ps, Or.inl ⟨rfl, hbl⟩, rfl, sit2, tb⟩
  case round =>
    clear sit2 tb hbl ps
    obtain ⟨q, ps, ⟨rfl, hbl⟩ | ⟨rfl, hbl⟩ | ⟨rfl, hbl⟩, rfl, sit, tb⟩ := hrel
    · go_upto_region 9 with fail
      go_loopw [10] (fun b wq => ∃ (j : Nat) (ps : List (List Int)), j ≤ 16 ∧ b = .int .i64 j ∧ Sit w F gc gd gl gk ak (newC 4 5 n) log0 (Dsk.new 60) 0 blankP wq ∧ TB F wq A8 48 32 ps ∧ Blk (0 + j) ps) (fun i _ => 16 - (intOf i).toNat)
      case atStart => exact ⟨0, ps, by omega, rfl, sit, tb, hbl⟩
      case round =>
        clear sit tb hbl ps
        obtain ⟨j, ps, hj, rfl, sit, tb, hbl⟩ := hrel
        by_cases hj6 : j < 16
        · have hj6' : (j : Int) < 16 := by omega
          have hj0 : (0 : Int) ≤ (j : Int) := by omega
          have hwj : IntKind.i64.wrap ((j : Int) + 1) = ((j + 1 : Nat) : Int) := by rw [IntKind.wrap_i64]; omega
          have hwc : IntKind.u16.wrap (j : Int) = (j : Int) := by rw [IntKind.wrap_u16]; omega
          have HA8 : Hid (w.heap.size ≤ A8) := hA8
          rename World => wq
          have HTB : Hid (TB F wq A8 48 32 ps) := tb
          have HBK : Hid (Blk (0 + j) ps) := hbl
          have HSI : Hid (Sit w F gc gd gl gk ak (newC 4 5 n) log0 (Dsk.new 60) 0 blankP wq) := sit
          have HBL : Hid (∀ W, Calls Try.prog 15 #[.agg #[.bool false, .int .u16 (j : Int)]] W fun e w' => e = .returned (.agg (bs (blankP false j))) ∧ Below W.heap.size W w') := fun W => blank_any false j W (by omega)
          obtain ⟨PB, HPB⟩ : ∃ PB, Hid (bs (blankP false j) = PB) := ⟨_, rfl⟩
          have HPS : Hid (PB.size = 224) := by rw [← HPB.out, bs_size]; exact blankP_length _ _
          have hpo : PB.all (·.oneCell') = true := by rw [← HPB.out]; exact bs_one _
          rw [HPB.out] at HBL
          clear sit tb hbl
          go_upto_region 11 with fail
          refine wp_region_held_drew (S := fun _ => True) (by kernel_rfl) trivial fun hS => ?_
          have hbd : Below wq.heap.size wq wq.drew := (Below.refl _ _).drew
          generalize wq.drew = Wd at hbd ⊢
          refine tkH (i := 0) (v := .int .i64 0) rfl (by kernel_rfl) (fun _ _ _ h => h) (Or.inl ⟨by rfl, fun w _ => by rfl⟩) hS ?_
          try simp only [Act.put, nz]
          refine tkH (i := 1) (v := .int .i64 j) rfl (by kernel_rfl) (fun _ _ _ h => h) (Or.inl ⟨by rfl, fun w _ => by rfl⟩) hS ?_
          try simp only [Act.put, nz]
          refine tkH (i := 2) (v := .int .i64 0) rfl (by kernel_rfl) (fun _ _ _ h => h) (Or.inl ⟨by rfl, fun w _ => by rfl⟩) hS ?_
          try simp only [Act.put, nz]
          refine tkH (i := 3) (v := .bool false) rfl (by kernel_rfl) (fun _ _ _ h => h) (Or.inl ⟨by rfl, fun w _ => by go_simp⟩) hS ?_
          try simp only [Act.put, nz]
          refine tkH (i := 4) (v := .int .i64 j) rfl (by kernel_rfl) (fun _ _ _ h => h) (Or.inl ⟨by rfl, fun w _ => by rfl⟩) hS ?_
          try simp only [Act.put, nz]
          refine tkH (i := 5) (v := .int .u16 j) rfl (by kernel_rfl) (fun _ _ _ h => h) (Or.inl ⟨by rfl, fun w _ => by go_simp⟩) hS ?_
          try simp only [Act.put, nz]
          refine tkH (i := 6) (v := .agg #[.bool false, .int .u16 (j : Int)]) rfl (by kernel_rfl) (fun _ _ _ h => h) (yields_build (by rfl) 31 #[(0, .tmp 40), (1, .tmp 42)] rfl [(0, .bool false), (1, .int .u16 (j : Int))] (by rfl) _ (built31b false (j : Int))) hS ?_
          try simp only [Act.put, nz]
          refine tkH (i := 8) (v := .pointer (some ⟨A8, 0, none⟩)) rfl (by kernel_rfl) (fun _ _ _ h => h) (Or.inl ⟨by rfl, fun w _ => by go_simp⟩) hS ?_
          try simp only [Act.put, nz]
          refine wpAnyH_ready (rs := [7]) (by kernel_rfl) (by simp) ?_
          refine (AllReadyH.cons rfl (fun K hK => ?_) AllReadyH.nil)
          have hb := HBL.out Wd
          go_simp
          go_at_call 15
          refine Calls.mono hb ?_
          clear hb
          rintro e Wb ⟨he, hbb⟩
          obtain rfl := he
          refine hK.out _ _ trivial fun hS => ?_
          try simp only [Act.put, nz]
          have hb2 : Below wq.heap.size wq Wb := hbd.trans (hbb.mono hbd.size)
          clear hbb hbd
          refine tkH (i := 9) (v := .pointer (some ⟨A8, (0 + j) * 224, none⟩)) rfl (by kernel_rfl) (fun _ _ _ h => h) (Or.inl ⟨by rfl, fun w _ => by go_simp⟩) hS ?_
          try simp only [Act.put, nz]
          refine wpAnyH_ready (rs := [10]) (by kernel_rfl) (by simp) ?_
          refine (AllReadyH.cons rfl (fun K hK => ?_) AllReadyH.nil)
          have tbb := HTB.out.below hb2
          have hth := tbb.there (m := 0 + j) (by omega)
          have tbs := tbb.set (m := 0 + j) (by omega) (p := blankP false j) (blankP_length _ _)
          have sib := (HSI.out.below hb2).setCells HA8.out HTB.out.loc.2 ((0 + j) * 224) (bs (blankP false j)).toList
          have hbn := HBK.out.next HTB.out.len (by omega) (p := blankP false j) (by first | (rw [show decide (16 ≤ 0 + j) = false by first | exact decide_eq_false (by omega) | exact decide_eq_true (by omega), show (0 + j) % 16 = j by omega]))
          rw [HPB.out] at tbs sib
          refine Cl.step_of rfl (wp_store_mid 34 (.tmp 46) (.tmp 44) rfl A8 ((0 + j) * 224) PB rfl rfl (by rw [HPS.out]; exact hth) (by rw [HPS.out]; exact size34) hpo ?_)
          clear hth tbb hb2
          refine hK.out _ _ trivial fun hS => ?_
          try simp only [Act.put, nz]
          refine wpAnyH_done (by kernel_rfl) ?_ _
          generalize Wb.setCells A8 ((0 + j) * 224) PB.toList = We at tbs sib ⊢
          go_wp2
          go_roundw
          case rel => exact ⟨j + 1, _, by omega, by first | rfl | simp, sib, tbs, hbn⟩
          case measure => simp only [intOf]; omega
        · have hj6' : ¬ (j : Int) < 16 := by omega
          go_wp2
          go_roundw
          case rel => exact ⟨1, ps, Or.inr (Or.inl ⟨rfl, by rw [show 0 + j = 16 by omega] at hbl; exact hbl⟩), by first | rfl | simp, sit, tb⟩
          case measure => simp only [intOf]; omega
    · go_upto_region 9 with fail
      go_loopw [10] (fun b wq => ∃ (j : Nat) (ps : List (List Int)), j ≤ 16 ∧ b = .int .i64 j ∧ Sit w F gc gd gl gk ak (newC 4 5 n) log0 (Dsk.new 60) 0 blankP wq ∧ TB F wq A8 48 32 ps ∧ Blk (16 + j) ps) (fun i _ => 16 - (intOf i).toNat)
      case atStart => exact ⟨0, ps, by omega, rfl, sit, tb, hbl⟩
      case round =>
        clear sit tb hbl ps
        obtain ⟨j, ps, hj, rfl, sit, tb, hbl⟩ := hrel
        by_cases hj6 : j < 16
        · have hj6' : (j : Int) < 16 := by omega
          have hj0 : (0 : Int) ≤ (j : Int) := by omega
          have hwj : IntKind.i64.wrap ((j : Int) + 1) = ((j + 1 : Nat) : Int) := by rw [IntKind.wrap_i64]; omega
          have hwc : IntKind.u16.wrap (j : Int) = (j : Int) := by rw [IntKind.wrap_u16]; omega
          have HA8 : Hid (w.heap.size ≤ A8) := hA8
          rename World => wq
          have HTB : Hid (TB F wq A8 48 32 ps) := tb
          have HBK : Hid (Blk (16 + j) ps) := hbl
          have HSI : Hid (Sit w F gc gd gl gk ak (newC 4 5 n) log0 (Dsk.new 60) 0 blankP wq) := sit
          have HBL : Hid (∀ W, Calls Try.prog 15 #[.agg #[.bool true, .int .u16 (j : Int)]] W fun e w' => e = .returned (.agg (bs (blankP true j))) ∧ Below W.heap.size W w') := fun W => blank_any true j W (by omega)
          obtain ⟨PB, HPB⟩ : ∃ PB, Hid (bs (blankP true j) = PB) := ⟨_, rfl⟩
          have HPS : Hid (PB.size = 224) := by rw [← HPB.out, bs_size]; exact blankP_length _ _
          have hpo : PB.all (·.oneCell') = true := by rw [← HPB.out]; exact bs_one _
          rw [HPB.out] at HBL
          clear sit tb hbl
          go_upto_region 11 with fail
          refine wp_region_held_drew (S := fun _ => True) (by kernel_rfl) trivial fun hS => ?_
          have hbd : Below wq.heap.size wq wq.drew := (Below.refl _ _).drew
          generalize wq.drew = Wd at hbd ⊢
          refine tkH (i := 0) (v := .int .i64 1) rfl (by kernel_rfl) (fun _ _ _ h => h) (Or.inl ⟨by rfl, fun w _ => by rfl⟩) hS ?_
          try simp only [Act.put, nz]
          refine tkH (i := 1) (v := .int .i64 j) rfl (by kernel_rfl) (fun _ _ _ h => h) (Or.inl ⟨by rfl, fun w _ => by rfl⟩) hS ?_
          try simp only [Act.put, nz]
          refine tkH (i := 2) (v := .int .i64 1) rfl (by kernel_rfl) (fun _ _ _ h => h) (Or.inl ⟨by rfl, fun w _ => by rfl⟩) hS ?_
          try simp only [Act.put, nz]
          refine tkH (i := 3) (v := .bool true) rfl (by kernel_rfl) (fun _ _ _ h => h) (Or.inl ⟨by rfl, fun w _ => by go_simp⟩) hS ?_
          try simp only [Act.put, nz]
          refine tkH (i := 4) (v := .int .i64 j) rfl (by kernel_rfl) (fun _ _ _ h => h) (Or.inl ⟨by rfl, fun w _ => by rfl⟩) hS ?_
          try simp only [Act.put, nz]
          refine tkH (i := 5) (v := .int .u16 j) rfl (by kernel_rfl) (fun _ _ _ h => h) (Or.inl ⟨by rfl, fun w _ => by go_simp⟩) hS ?_
          try simp only [Act.put, nz]
          refine tkH (i := 6) (v := .agg #[.bool true, .int .u16 (j : Int)]) rfl (by kernel_rfl) (fun _ _ _ h => h) (yields_build (by rfl) 31 #[(0, .tmp 40), (1, .tmp 42)] rfl [(0, .bool true), (1, .int .u16 (j : Int))] (by rfl) _ (built31b true (j : Int))) hS ?_
          try simp only [Act.put, nz]
          refine tkH (i := 8) (v := .pointer (some ⟨A8, 3584, none⟩)) rfl (by kernel_rfl) (fun _ _ _ h => h) (Or.inl ⟨by rfl, fun w _ => by go_simp⟩) hS ?_
          try simp only [Act.put, nz]
          refine wpAnyH_ready (rs := [7]) (by kernel_rfl) (by simp) ?_
          refine (AllReadyH.cons rfl (fun K hK => ?_) AllReadyH.nil)
          have hb := HBL.out Wd
          go_simp
          go_at_call 15
          refine Calls.mono hb ?_
          clear hb
          rintro e Wb ⟨he, hbb⟩
          obtain rfl := he
          refine hK.out _ _ trivial fun hS => ?_
          try simp only [Act.put, nz]
          have hb2 : Below wq.heap.size wq Wb := hbd.trans (hbb.mono hbd.size)
          clear hbb hbd
          refine tkH (i := 9) (v := .pointer (some ⟨A8, (16 + j) * 224, none⟩)) rfl (by kernel_rfl) (fun _ _ _ h => h) (Or.inl ⟨by rfl, fun w _ => by go_simp⟩) hS ?_
          try simp only [Act.put, nz]
          refine wpAnyH_ready (rs := [10]) (by kernel_rfl) (by simp) ?_
          refine (AllReadyH.cons rfl (fun K hK => ?_) AllReadyH.nil)
          have tbb := HTB.out.below hb2
          have hth := tbb.there (m := 16 + j) (by omega)
          have tbs := tbb.set (m := 16 + j) (by omega) (p := blankP true j) (blankP_length _ _)
          have sib := (HSI.out.below hb2).setCells HA8.out HTB.out.loc.2 ((16 + j) * 224) (bs (blankP true j)).toList
          have hbn := HBK.out.next HTB.out.len (by omega) (p := blankP true j) (by first | (rw [show decide (16 ≤ 16 + j) = true by first | exact decide_eq_false (by omega) | exact decide_eq_true (by omega), show (16 + j) % 16 = j by omega]))
          rw [HPB.out] at tbs sib
          refine Cl.step_of rfl (wp_store_mid 34 (.tmp 46) (.tmp 44) rfl A8 ((16 + j) * 224) PB rfl rfl (by rw [HPS.out]; exact hth) (by rw [HPS.out]; exact size34) hpo ?_)
          clear hth tbb hb2
          refine hK.out _ _ trivial fun hS => ?_
          try simp only [Act.put, nz]
          refine wpAnyH_done (by kernel_rfl) ?_ _
          generalize Wb.setCells A8 ((16 + j) * 224) PB.toList = We at tbs sib ⊢
          go_wp2
          go_roundw
          case rel => exact ⟨j + 1, _, by omega, by first | rfl | simp, sib, tbs, hbn⟩
          case measure => simp only [intOf]; omega
        · have hj6' : ¬ (j : Int) < 16 := by omega
          go_wp2
          go_roundw
          case rel => exact ⟨2, ps, Or.inr (Or.inr ⟨rfl, by rw [show 16 + j = 32 by omega] at hbl; exact hbl⟩), by first | rfl | simp, sit, tb⟩
          case measure => simp only [intOf]; omega
    · have htd : Told blankP ps := hbl.told
      clear hbl
      go_upto_region 13 with fail
      go_loopw [11] (fun i wr => ∃ (k kc : Nat) (F : Nat → Prop) (s : Cs) (l : Lg) (d : Dsk) (la : Bool → Int → List Int) (ps : List (List Int)), i = .int .i64 k ∧ k ≤ 80 ∧ kc ≤ 2 * k ∧ Sit w F gc gd gl gk ak s l d kc la wr ∧ TB F wr A8 48 32 ps ∧ Told la ps) (fun i _ => 80 - (intOf i).toNat)
      case atStart => exact ⟨0, 0, F, _, _, _, _, ps, rfl, by omega, by omega, sit, tb, htd⟩
      case round =>
        clear sit tb htd ps
        obtain ⟨k, kc, F, s, l, d, la, ps, rfl, hk, hkc, sit, tb, htd⟩ := hrel
        by_cases hkX : k < cs.length
        · have hkX' : (k : Int) < (cs.length : Int) := by omega
          by_cases hk8 : k < 80
          · have hk8' : (k : Int) < 80 := by omega
            have hk0 : (0 : Int) ≤ (k : Int) := by omega
            have hwk : IntKind.i64.wrap ((k : Int) + 1) = ((k + 1 : Nat) : Int) := by rw [IntKind.wrap_i64]; omega
            obtain ⟨a, c, rfl, hcj, hcok, hcell⟩ := HEL.out k hkX
            have hcell2 : ∀ i u, c.cells[i]? = some u → wr.cell? ((a.add (k * 229)).add i) = some u := fun i u h => cell_keep (hcell i u h) sit.cs.1
            obtain ⟨kd, u, no, b, fz, zl, pp⟩ := c
            have hnb : 0 ≤ no ∧ no ≤ 65535 := hcok.k
            have hbb : 0 ≤ b ∧ b ≤ 255 := hcok.b
            obtain ⟨kn, rfl⟩ : ∃ kn : Nat, no = (kn : Int) := ⟨no.toNat, by omega⟩
            have HCN : Hid ((XO.cells ⟨kd, u, (kn : Int), b, fz, zl, pp⟩).length = 229) := by show _ = _; simp [XO.cells, hcok.p]
            have HCK : Hid (∀ W, Below wr.heap.size wr W → XO.Ok W ⟨kd, u, (kn : Int), b, fz, zl, pp⟩) := fun W hb => (hcok.keep sit.cs.1).keep hb
            have hone := xo_one hcok
            obtain ⟨OA, HOA⟩ : ∃ OA, Hid ((XO.cells ⟨kd, u, (kn : Int), b, fz, zl, pp⟩).toArray = OA) := ⟨_, rfl⟩
            have HOS : Hid (OA.size = 229) := by rw [← HOA.out]; exact HCN.out
            have HC0 : Hid (OA[0]? = some (.int .i64 kd)) := by rw [← HOA.out]; rfl
            have HC1 : Hid (OA[1]? = some (.bool u)) := by rw [← HOA.out]; rfl
            have HC2 : Hid (OA[2]? = some (.int .u16 (kn : Int))) := by rw [← HOA.out]; rfl
            have HC3 : Hid (OA[3]? = some (.int .u8 b)) := by rw [← HOA.out]; rfl
            rw [HOA.out] at hone
            have hz36 := zero36
            have HZX : Hid (XO.zero.cells.toArray.size = 229) := rfl
            generalize XO.zero.cells.toArray = ZX at hz36 HZX
            have rn : Row (wr.alloc (.cells ZX 36)) wr.heap.size ZX 36 := Row.new _ _ _
            have b3 : Below wr.heap.size wr ((wr.alloc (.cells ZX 36)).setRow wr.heap.size OA) := below_setRow ((Below.refl _ _).alloc (Nat.le_refl _) _) (Nat.le_refl _) _
            have lX : CLoc F ((wr.alloc (.cells ZX 36)).setRow wr.heap.size OA) wr.heap.size OA 36 := ⟨rn.set _, fun q => by have := sit.cs.2.1.lt _ q; omega⟩
            have sit3 := sit.below b3
            have tb3 := tb.below b3
            have HK : Hid (k < 80) := hk8
            have HKC : Hid (kc ≤ 2 * k) := hkc
            have HXA : Hid (A8 ≠ wr.heap.size) := fun q => by have := tb.loc.1.lt; omega
            clear hcell hcj hcok sit tb
            have tl : Hid (1 = 1) := rfl
            have ts : Hid (1 = 1) := rfl
            go_upto_region 16 with (first
              | (have hh := tl; clear hh tl; refine wpList_load_any rfl 36 (.tmp 59) rfl _ rfl (XO.cells ⟨kd, u, (kn : Int), b, fz, zl, pp⟩) _ hcell2 Try.underlying36 rfl (by rw [size36, HCN.out]) ?_; rw [HOA.out])
              | (have hh := ts; clear hh ts; refine store_cells rfl 36 (.tmp 12) (.tmp 60) rfl wr.heap.size OA rfl rfl 36 _ rn 229 size36 HZX.out HOS.out hone ?_))
            clear rn hcell2 hz36 HZX
            have HB3 : Hid (Below wr.heap.size wr ((wr.alloc (.cells ZX 36)).setRow wr.heap.size OA)) := b3
            clear b3
            generalize (wr.alloc (.cells ZX 36)).setRow wr.heap.size OA = W3 at lX sit3 tb3 HB3 ⊢
            generalize HX0 : wr.heap.size = X at lX HXA ⊢
            have HLX : Hid (CLoc F W3 X OA 36) := lX
            have HSI : Hid _ := sit3
            have HTB : Hid _ := tb3
            have HTD : Hid (Told la ps) := htd
            have q0 := row_at lX.1 0 _ HC0.out
            have q1 := row_at lX.1 1 _ HC1.out
            have q2 := row_at lX.1 2 _ HC2.out
            have HQI : Hid (∀ W, Row W X OA 36 → ∀ j v, ([.bool u, .int .u16 (kn : Int)] : List Value)[j]? = some v → W.cell? ((⟨X, 1, none⟩ : Addr).add j) = some v) := fun W h j v hj => by
              rw [Addr.add_mid]
              have hj2 : j < 2 := (List.getElem?_eq_some_iff.1 hj).1
              refine row_at h (1 + j) _ ?_
              match j, hj2, hj with
              | 0, _, hj => simpa using HC1.out.trans hj
              | 1, _, hj => simpa using HC2.out.trans hj
            have qi := HQI.out W3 lX.1
            clear lX sit3 tb3 htd hone
            cases u with
            | false =>
              go_upto_region 19 with fail
              by_cases hno : 15 < kn
              · have hno' : (15 : Int) < (kn : Int) := by omega
                go_wp2
                go_roundw
                case rel => exact ⟨k + 1, kc, _, _, _, _, _, _, by first | rfl | simp, by have := HK.out; omega, by have := HKC.out; omega, HSI.out, HTB.out, HTD.out⟩
                case measure => have := HK.out; simp only [intOf]; omega
              · have hno' : ¬ (15 : Int) < (kn : Int) := by omega
                have hn16 : (kn : Int) < 16 := by omega
                have hn0 : (0 : Int) ≤ (kn : Int) := by omega
                by_cases hkd : kd = 0
                · subst hkd
                  go_upto_region 23 with fail
                  have hfe := Sit.fetch HSI.out (by have := HKC.out; have := HK.out; omega) false (j := (kn : Int)) (by omega)
                  have tl : Hid (1 = 1) := rfl
                  have ts : Hid (1 = 1) := rfl
                  have hz34 := zero34
                  have HZP : Hid ((bs (zs 224)).size = 224) := by show _ = _; rw [bs_size]; exact zs_length _
                  generalize bs (zs 224) = ZP at hz34 HZP
                  go_upto_region 24 with (first
                    | (have hh := tl; clear hh tl; refine wpList_load_any rfl 31 (.tmp 79) rfl ⟨X, 1, none⟩ rfl [.bool false, .int .u16 (kn : Int)] _ qi Try.underlying31 rfl (by rw [size31]; rfl) ?_)
                    | (have hh := hfe; clear hh; go_at_call 16; refine Calls.mono hfe ?_; clear hfe; rintro e W4 ⟨p, E, F4, s4, l4, d4, he, hpl, sit4, tr4, hE⟩; obtain rfl := he; have HPS : Hid ((bs p).size = 224) := (by show _ = _; rw [bs_size]; exact hpl); have l14 : CLoc F4 (W4.alloc (.cells ZP 34)) W4.heap.size ZP 34 := ⟨Row.new _ _ _, fun q => by have := sit4.cs.2.1.lt _ q; omega⟩)
                    | (have hh := ts; clear hh ts; refine store_cells rfl 34 (.tmp 14) (.tmp 82) rfl W4.heap.size (bs p) rfl rfl 34 _ l14.1 224 size34 HZP.out HPS.out (bs_one _) ?_))
                  have rX4 := HLX.out.tr tr4
                  have tb4 := HTB.out.tr tr4
                  have ba : Below W4.heap.size W4 ((W4.alloc (.cells ZP 34)).setRow W4.heap.size (bs p)) := below_setRow ((Below.refl _ _).alloc (Nat.le_refl _) _) (Nat.le_refl _) _
                  have sit5 := sit4.below ba
                  have tb5 := tb4.below ba
                  have lX5 := rX4.below ba
                  have l145 := l14.set (bs p)
                  clear ba sit4 tb4 rX4 tr4 l14 hz34 HZP
                  generalize (W4.alloc (.cells ZP 34)).setRow W4.heap.size (bs p) = W5 at sit5 tb5 lX5 l145 ⊢
                  generalize W4.heap.size = A14 at l145 ⊢
                  have HS5 : Hid _ := sit5
                  have HT5 : Hid _ := tb5
                  by_cases hE0 : E = 0
                  · subst hE0
                    have hpe := (hE rfl).1
                    have htm : ps[(0 + kn)]? = some p := by rw [hpe]; exact HTD.out false kn (by omega)
                    have HTC : Hid (∀ w', Row w' A8 (bs ps.flatten) 48 → ∀ j v, (p.map (Value.int .u8))[j]? = some v → w'.cell? ((⟨A8, (0 + kn) * 224, none⟩ : Addr).add j) = some v) := fun w' hr => tb5.cells htm hr
                    have HPL : Hid (p.length = 224) := hpl
                    have HEQ : Hid (∀ w, (Op.equalIn 10000 34 (.agg (bs p)) (.agg (bs p))).run Try.prog w = .ok true w) := fun w => by
                      have := equal34 p p hpl hpl w
                      rw [this, decide_eq_true rfl]
                    refine wp_region_held_drew (S := fun W => Row W A14 (bs p) 34 ∧ Row W X OA 36 ∧ Row W A8 (bs ps.flatten) 48) (by kernel_rfl) ⟨l145.1, lX5.1, tb5.loc.1⟩ fun hS => ?_
                    have hsd := sit5.below (below_drew W5)
                    have tbd := tb5.below (below_drew W5)
                    clear sit5 tb5 lX5 l145 hE htm
                    generalize W5.drew = W6 at hS hsd tbd ⊢
                    refine tkH (i := 0) (v := .int .i64 0) rfl (by kernel_rfl) (fun _ _ _ h => h) (Or.inl ⟨by rfl, fun w _ => by rfl⟩) hS ?_
                    try simp only [Act.put, nz]
                    refine tkH (i := 1) (v := .bool true) rfl (by kernel_rfl) (fun _ _ _ h => h) (Or.inl ⟨by rfl, fun w _ => by go_simp⟩) hS ?_
                    try simp only [Act.put, nz]
                    refine tkH (i := 2) (v := .bool true) rfl (by kernel_rfl) (fun _ _ _ h => h) (Or.inl ⟨by rfl, fun w _ => by rfl⟩) hS ?_
                    try simp only [Act.put, nz]
                    refine tkH (i := 3) (v := .agg (bs p)) rfl (by kernel_rfl) (fun _ _ _ h => h) (yields_cells (by rfl) 34 (.tmp 14) rfl A14 rfl 34 (bs p) (fun w h => h.1) 224 Try.underlying34 rfl size34 HPS.out) hS ?_
                    try simp only [Act.put, nz]
                    refine tkH (i := 4) (v := .int .i64 0) rfl (by kernel_rfl) (fun _ _ _ h => h) (Or.inl ⟨by rfl, fun w _ => by go_simp⟩) hS ?_
                    try simp only [Act.put, nz]
                    refine tkH (i := 5) (v := .pointer (some ⟨X, 1, none⟩)) rfl (by kernel_rfl) (fun _ _ _ h => h) (Or.inl ⟨by rfl, fun w _ => by go_simp⟩) hS ?_
                    try simp only [Act.put, nz]
                    refine tkH (i := 6) (v := .pointer (some ⟨X, 2, none⟩)) rfl (by kernel_rfl) (fun _ _ _ h => h) (Or.inl ⟨by rfl, fun w _ => by go_simp⟩) hS ?_
                    try simp only [Act.put, nz]
                    refine tkH (i := 7) (v := .int .u16 kn) rfl (by kernel_rfl) (fun _ _ _ h => h) (Or.inl ⟨by rfl, fun w h => by have c := row_at (h.2.1) 2 _ HC2.out; go_simp⟩) hS ?_
                    try simp only [Act.put, nz]
                    refine tkH (i := 8) (v := .pointer (some ⟨A8, 0, none⟩)) rfl (by kernel_rfl) (fun _ _ _ h => h) (Or.inl ⟨by rfl, fun w _ => by go_simp⟩) hS ?_
                    try simp only [Act.put, nz]
                    refine tkH (i := 9) (v := .pointer (some ⟨A8, (0 + kn) * 224, none⟩)) rfl (by kernel_rfl) (fun _ _ _ h => h) (Or.inl ⟨by rfl, fun w _ => by go_simp⟩) hS ?_
                    try simp only [Act.put, nz]
                    refine tkH (i := 10) (v := .agg (bs p)) rfl (by kernel_rfl) (fun _ _ _ h => h) (yields_any (by rfl) 34 (.tmp 93) rfl ⟨A8, (0 + kn) * 224, none⟩ rfl (p.map (Value.int .u8)) _ (fun w h => HTC.out w h.2.2) Try.underlying34 rfl (by rw [size34, List.length_map, HPL.out])) hS ?_
                    try simp only [Act.put, nz]
                    refine tkH (i := 11) (v := .bool false) rfl (by kernel_rfl) (fun _ _ _ h => h) (yields_neq (by rfl) 34 34 (.tmp 87) (.tmp 94) rfl (bs p) (bs p) rfl rfl Try.eqGuardType34 true HEQ.out) hS ?_
                    try simp only [Act.put, nz]
                    refine tkH (i := 12) (v := .bool false) rfl (by kernel_rfl) (fun _ _ _ h => h) (Or.inl ⟨by rfl, fun w _ => by go_simp⟩) hS ?_
                    try simp only [Act.put, nz]
                    refine wpAnyH_done (by kernel_rfl) ?_ _
                    go_wp2
                    go_roundw
                    case rel => exact ⟨k + 1, kc + 1, _, _, _, _, _, _, by first | rfl | simp, by have := HK.out; omega, by have := HKC.out; omega, hsd, tbd, HTD.out⟩
                    case measure => have := HK.out; simp only [intOf]; omega
                  · have hEb : (E == 0) = false := by simpa using hE0
                    refine wp_region_held_drew (S := fun _ => True) (by kernel_rfl) trivial fun hS => ?_
                    have hsd := sit5.below (below_drew W5)
                    have tbd := tb5.below (below_drew W5)
                    clear sit5 tb5 lX5 l145 hE
                    generalize W5.drew = W6 at hsd tbd ⊢
                    refine tkH (i := 0) (v := .int .i64 E) rfl (by kernel_rfl) (fun _ _ _ h => h) (Or.inl ⟨by rfl, fun w _ => by rfl⟩) hS ?_
                    try simp only [Act.put, nz]
                    refine tkH (i := 1) (v := .bool false) rfl (by kernel_rfl) (fun _ _ _ h => h) (Or.inl ⟨by rfl, fun w _ => by go_simp⟩) hS ?_
                    try simp only [Act.put, nz]
                    refine tkH (i := 2) (v := .bool false) rfl (by kernel_rfl) (fun _ _ _ h => h) (Or.inl ⟨by rfl, fun w _ => by rfl⟩) hS ?_
                    try simp only [Act.put, nz]
                    refine tkH (i := 3) (v := undef) rfl (by kernel_rfl) (fun _ _ _ h => h) (Or.inr ⟨by rfl, by rfl⟩) hS ?_
                    try simp only [Act.put, nz]
                    refine tkH (i := 4) (v := undef) rfl (by kernel_rfl) (fun _ _ _ h => h) (Or.inr ⟨by rfl, by rfl⟩) hS ?_
                    try simp only [Act.put, nz]
                    refine tkH (i := 5) (v := undef) rfl (by kernel_rfl) (fun _ _ _ h => h) (Or.inr ⟨by rfl, by rfl⟩) hS ?_
                    try simp only [Act.put, nz]
                    refine tkH (i := 6) (v := undef) rfl (by kernel_rfl) (fun _ _ _ h => h) (Or.inr ⟨by rfl, by rfl⟩) hS ?_
                    try simp only [Act.put, nz]
                    refine tkH (i := 7) (v := undef) rfl (by kernel_rfl) (fun _ _ _ h => h) (Or.inr ⟨by rfl, by rfl⟩) hS ?_
                    try simp only [Act.put, nz]
                    refine tkH (i := 8) (v := undef) rfl (by kernel_rfl) (fun _ _ _ h => h) (Or.inr ⟨by rfl, by rfl⟩) hS ?_
                    try simp only [Act.put, nz]
                    refine tkH (i := 9) (v := undef) rfl (by kernel_rfl) (fun _ _ _ h => h) (Or.inr ⟨by rfl, by rfl⟩) hS ?_
                    try simp only [Act.put, nz]
                    refine tkH (i := 10) (v := undef) rfl (by kernel_rfl) (fun _ _ _ h => h) (Or.inr ⟨by rfl, by rfl⟩) hS ?_
                    try simp only [Act.put, nz]
                    refine tkH (i := 11) (v := undef) rfl (by kernel_rfl) (fun _ _ _ h => h) (Or.inr ⟨by rfl, by rfl⟩) hS ?_
                    try simp only [Act.put, nz]
                    refine tkH (i := 12) (v := .bool false) rfl (by kernel_rfl) (fun _ _ _ h => h) (Or.inl ⟨by rfl, fun w _ => by go_simp⟩) hS ?_
                    try simp only [Act.put, nz]
                    refine wpAnyH_done (by kernel_rfl) ?_ _
                    go_wp2
                    go_roundw
                    case rel => exact ⟨k + 1, kc + 1, _, _, _, _, _, _, by first | rfl | simp, by have := HK.out; omega, by have := HKC.out; omega, hsd, tbd, HTD.out⟩
                    case measure => have := HK.out; simp only [intOf]; omega
                · by_cases hkd2 : kd = 2
                  · subst hkd2
                    have hap := Sit.append HSI.out (by have := HKC.out; have := HK.out; omega) putB3 (by decide)
                    have hat := appL_told l putB3
                    have hlr := HSI.out.st.lsn (by have := HKC.out; have := HK.out; omega)
                    have har : 0 ≤ appA l putB3 ∧ appA l putB3 ≤ 18446744073709551615 := by
                      unfold appA
                      split
                      · exact hlr
                      · omega
                    go_upto_region 28 with (have hh := hap; clear hh; go_at_call 17; refine Calls.mono hap ?_; clear hap; rintro e W4 ⟨he, F4, sit4, tr4⟩; obtain rfl := he)
                    have lX4 := HLX.out.tr tr4
                    have tb4 := HTB.out.tr tr4
                    clear tr4 q0 q1 q2 qi
                    by_cases hE0 : appE l putB3 = 0
                    · obtain ⟨ha1, ha2⟩ := hat.2.2.2.2 hE0
                      have HLT : Hid (lsnP (fillP false (kn : Int) b (appA l putB3)) < (appL l putB3).fin) := by show _ < _; rw [lsnP_fill _ _ _ _ hbb har, ha1]; exact ha2
                      have HFP : Hid ((fillP false (kn : Int) b (appA l putB3)).length = 224) := fillP_length _ _ _ _
                      have HFB : Hid (Bytes (fillP false (kn : Int) b (appA l putB3))) := fillP_bytes _ _ _ _
                      have HFL : Hid (∀ W, Calls Try.prog 19 #[.agg #[.bool false, .int .u16 (kn : Int)], .int .u8 b, .int .u64 (appA l putB3)] W fun e w' => e = .returned (.agg (bs (fillP false (kn : Int) b (appA l putB3)))) ∧ Below W.heap.size W w') := fun W => fill_any false (kn : Int) b (appA l putB3) (wfu_mk (by omega)) hbb har W
                      generalize fillP false (kn : Int) b (appA l putB3) = fp at HLT HFP HFB HFL
                      have HFS : Hid ((bs fp).size = 224) := by show _ = _; rw [bs_size]; exact HFP.out
                      rw [hE0]
                      clear hat ha1 ha2 hlr
                      refine wp_region_held_drew (S := fun W => Row W X OA 36) (by kernel_rfl) lX4.1 fun hS => ?_
                      have sit5 := sit4.below (below_drew W4)
                      have tb5 := tb4.below (below_drew W4)
                      have lX5 := lX4.below (below_drew W4)
                      clear sit4 tb4 lX4
                      generalize W4.drew = W5 at hS sit5 tb5 lX5 ⊢
                      refine tkH (i := 0) (v := .int .i64 0) rfl (by kernel_rfl) (fun _ _ _ h => h) (Or.inl ⟨by rfl, fun w _ => by rfl⟩) hS ?_
                      try simp only [Act.put, nz]
                      refine tkH (i := 1) (v := .bool true) rfl (by kernel_rfl) (fun _ _ _ h => h) (Or.inl ⟨by rfl, fun w _ => by go_simp⟩) hS ?_
                      try simp only [Act.put, nz]
                      refine tkH (i := 2) (v := .bool true) rfl (by kernel_rfl) (fun _ _ _ h => h) (Or.inl ⟨by rfl, fun w _ => by rfl⟩) hS ?_
                      try simp only [Act.put, nz]
                      refine tkH (i := 3) (v := .pointer (some ⟨gc, 0, none⟩)) rfl (by kernel_rfl) (fun _ _ _ h => h) (Or.inl ⟨by rfl, fun w _ => by rfl⟩) hS ?_
                      try simp only [Act.put, nz]
                      refine tkH (i := 4) (v := .pointer (some ⟨X, 1, none⟩)) rfl (by kernel_rfl) (fun _ _ _ h => h) (Or.inl ⟨by rfl, fun w _ => by go_simp⟩) hS ?_
                      try simp only [Act.put, nz]
                      refine tkH (i := 5) (v := .agg #[.bool false, .int .u16 (kn : Int)]) rfl (by kernel_rfl) (fun _ _ _ h => h) (yields_any (by rfl) 31 (.tmp 108) rfl ⟨X, 1, none⟩ rfl [.bool false, .int .u16 (kn : Int)] _ (fun w h => HQI.out w (h)) Try.underlying31 rfl (by rw [size31]; rfl)) hS ?_
                      try simp only [Act.put, nz]
                      refine tkH (i := 6) (v := .pointer (some ⟨X, 1, none⟩)) rfl (by kernel_rfl) (fun _ _ _ h => h) (Or.inl ⟨by rfl, fun w _ => by go_simp⟩) hS ?_
                      try simp only [Act.put, nz]
                      refine tkH (i := 7) (v := .agg #[.bool false, .int .u16 (kn : Int)]) rfl (by kernel_rfl) (fun _ _ _ h => h) (yields_any (by rfl) 31 (.tmp 110) rfl ⟨X, 1, none⟩ rfl [.bool false, .int .u16 (kn : Int)] _ (fun w h => HQI.out w (h)) Try.underlying31 rfl (by rw [size31]; rfl)) hS ?_
                      try simp only [Act.put, nz]
                      refine tkH (i := 8) (v := .pointer (some ⟨X, 3, none⟩)) rfl (by kernel_rfl) (fun _ _ _ h => h) (Or.inl ⟨by rfl, fun w _ => by go_simp⟩) hS ?_
                      try simp only [Act.put, nz]
                      refine tkH (i := 9) (v := .int .u8 b) rfl (by kernel_rfl) (fun _ _ _ h => h) (Or.inl ⟨by rfl, fun w h => by have c := row_at (h) 3 _ HC3.out; go_simp⟩) hS ?_
                      try simp only [Act.put, nz]
                      refine tkH (i := 10) (v := .int .u64 (appA l putB3)) rfl (by kernel_rfl) (fun _ _ _ h => h) (Or.inl ⟨by rfl, fun w _ => by rfl⟩) hS ?_
                      try simp only [Act.put, nz]
                      refine wpAnyH_ready (rs := [11]) (by kernel_rfl) (by simp) ?_
                      refine (AllReadyH.cons rfl (fun K hK => ?_) AllReadyH.nil)
                      have hfl := HFL.out W5
                      go_simp
                      go_at_call 19
                      refine Calls.mono hfl ?_
                      clear hfl
                      rintro e W6 ⟨he, hb6⟩
                      obtain rfl := he
                      have sit6 := sit5.below hb6
                      have tb6 := tb5.below hb6
                      have lX6 := lX5.below hb6
                      refine hK.out _ _ lX6.1 fun hS => ?_
                      try simp only [Act.put, nz]
                      clear sit5 tb5 lX5 hb6
                      by_cases hP : putE s false (kn : Int) fp = 0
                      · refine wpAnyH_ready (rs := [12]) (by kernel_rfl) (by simp) ?_
                        refine (AllReadyH.cons rfl (fun K hK => ?_) AllReadyH.nil)
                        have hpu := Sit.put sit6 (by have := HKC.out; have := HK.out; omega) false (j := (kn : Int)) (by omega) fp HFP.out HFB.out HLT.out
                        rw [if_pos hP, hP] at hpu
                        go_simp
                        go_at_call 18
                        refine Calls.mono hpu ?_
                        clear hpu
                        rintro e W7 ⟨he, F7, sit7, tr7⟩
                        obtain rfl := he
                        have tb7 := tb6.tr tr7
                        have lX7 := lX6.tr tr7
                        refine hK.out _ _ lX7.1 fun hS => ?_
                        try simp only [Act.put, nz]
                        clear sit6 tb6 lX6 tr7
                        refine tkH (i := 13) (v := .bool true) rfl (by kernel_rfl) (fun _ _ _ h => h) (Or.inl ⟨by rfl, fun w _ => by go_simp⟩) hS ?_
                        try simp only [Act.put, nz]
                        refine tkH (i := 14) (v := .bool true) rfl (by kernel_rfl) (fun _ _ _ h => h) (Or.inl ⟨by rfl, fun w _ => by go_simp⟩) hS ?_
                        try simp only [Act.put, nz]
                        refine wpAnyH_done (by kernel_rfl) ?_ _
                        go_upto_region 29 with fail
                        refine wp_region_held_drew (S := fun W => Row W X OA 36) (by kernel_rfl) lX7.1 fun hS => ?_
                        have sit8 := sit7.below (below_drew W7)
                        have tb8 := tb7.below (below_drew W7)
                        have lX8 := lX7.below (below_drew W7)
                        clear sit7 tb7 lX7
                        generalize W7.drew = W8 at hS sit8 tb8 lX8 ⊢
                        refine tkH (i := 0) (v := .int .i64 0) rfl (by kernel_rfl) (fun _ _ _ h => h) (Or.inl ⟨by rfl, fun w _ => by go_simp⟩) hS ?_
                        try simp only [Act.put, nz]
                        refine tkH (i := 1) (v := .pointer (some ⟨X, 1, none⟩)) rfl (by kernel_rfl) (fun _ _ _ h => h) (Or.inl ⟨by rfl, fun w _ => by go_simp⟩) hS ?_
                        try simp only [Act.put, nz]
                        refine tkH (i := 2) (v := .pointer (some ⟨X, 2, none⟩)) rfl (by kernel_rfl) (fun _ _ _ h => h) (Or.inl ⟨by rfl, fun w _ => by go_simp⟩) hS ?_
                        try simp only [Act.put, nz]
                        refine tkH (i := 3) (v := .int .u16 kn) rfl (by kernel_rfl) (fun _ _ _ h => h) (Or.inl ⟨by rfl, fun w h => by have c := row_at (h) 2 _ HC2.out; go_simp⟩) hS ?_
                        try simp only [Act.put, nz]
                        refine tkH (i := 4) (v := .pointer (some ⟨X, 1, none⟩)) rfl (by kernel_rfl) (fun _ _ _ h => h) (Or.inl ⟨by rfl, fun w _ => by go_simp⟩) hS ?_
                        try simp only [Act.put, nz]
                        refine tkH (i := 5) (v := .agg #[.bool false, .int .u16 (kn : Int)]) rfl (by kernel_rfl) (fun _ _ _ h => h) (yields_any (by rfl) 31 (.tmp 123) rfl ⟨X, 1, none⟩ rfl [.bool false, .int .u16 (kn : Int)] _ (fun w h => HQI.out w (h)) Try.underlying31 rfl (by rw [size31]; rfl)) hS ?_
                        try simp only [Act.put, nz]
                        refine tkH (i := 6) (v := .pointer (some ⟨X, 3, none⟩)) rfl (by kernel_rfl) (fun _ _ _ h => h) (Or.inl ⟨by rfl, fun w _ => by go_simp⟩) hS ?_
                        try simp only [Act.put, nz]
                        refine tkH (i := 7) (v := .int .u8 b) rfl (by kernel_rfl) (fun _ _ _ h => h) (Or.inl ⟨by rfl, fun w h => by have c := row_at (h) 3 _ HC3.out; go_simp⟩) hS ?_
                        try simp only [Act.put, nz]
                        refine tkH (i := 8) (v := .int .u64 (appA l putB3)) rfl (by kernel_rfl) (fun _ _ _ h => h) (Or.inl ⟨by rfl, fun w _ => by rfl⟩) hS ?_
                        try simp only [Act.put, nz]
                        refine tkH (i := 10) (v := .pointer (some ⟨A8, 0, none⟩)) rfl (by kernel_rfl) (fun _ _ _ h => h) (Or.inl ⟨by rfl, fun w _ => by go_simp⟩) hS ?_
                        try simp only [Act.put, nz]
                        refine wpAnyH_ready (rs := [9]) (by kernel_rfl) (by simp) ?_
                        refine (AllReadyH.cons rfl (fun K hK => ?_) AllReadyH.nil)
                        have hfl := HFL.out W8
                        go_simp
                        go_at_call 19
                        refine Calls.mono hfl ?_
                        clear hfl
                        rintro e W9 ⟨he, hb9⟩
                        obtain rfl := he
                        have sit9 := sit8.below hb9
                        have tb9 := tb8.below hb9
                        have lX9 := lX8.below hb9
                        refine hK.out _ _ lX9.1 fun hS => ?_
                        try simp only [Act.put, nz]
                        clear sit8 tb8 lX8 hb9
                        refine tkH (i := 11) (v := .pointer (some ⟨A8, (0 + kn) * 224, none⟩)) rfl (by kernel_rfl) (fun _ _ _ h => h) (Or.inl ⟨by rfl, fun w _ => by go_simp⟩) hS ?_
                        try simp only [Act.put, nz]
                        refine wpAnyH_ready (rs := [12]) (by kernel_rfl) (by simp) ?_
                        refine (AllReadyH.cons rfl (fun K hK => ?_) AllReadyH.nil)
                        have hth := tb9.there (m := (0 + kn)) (by omega)
                        have tbs := tb9.set (m := (0 + kn)) (by omega) (p := fp) HFP.out
                        have sib := sit9.setCells hA8 tb9.loc.2 ((0 + kn) * 224) (bs fp).toList
                        have hto : Told (lastP la false (kn : Int) fp) (ps.set (0 + kn) fp) := HTD.out.put tb9.len false (j := kn) (by omega) fp
                        have lXs : Row (W9.setCells A8 ((0 + kn) * 224) (bs fp).toList) X OA 36 := lX9.1.off (Off.of_setCells A8 _ _ _) (fun q => HXA.out q.symm)
                        refine Cl.step_of rfl (wp_store_mid 34 (.tmp 130) (.tmp 128) rfl A8 ((0 + kn) * 224) (bs fp) rfl rfl (by rw [HFS.out]; exact hth) (by rw [HFS.out]; exact size34) (bs_one _) ?_)
                        refine hK.out _ _ lXs fun hS => ?_
                        try simp only [Act.put, nz]
                        refine wpAnyH_done (by kernel_rfl) ?_ _
                        clear hth sit9 tb9 lX9 lXs hS
                        generalize W9.setCells A8 ((0 + kn) * 224) (bs fp).toList = We at tbs sib ⊢
                        go_wp2
                        go_roundw
                        case rel => exact ⟨k + 1, kc + 1 + 1, _, _, _, _, _, _, by first | rfl | simp, by have := HK.out; omega, by have := HKC.out; omega, sib, tbs, hto⟩
                        case measure => have := HK.out; simp only [intOf]; omega
                      · refine wpAnyH_ready (rs := [12]) (by kernel_rfl) (by simp) ?_
                        refine (AllReadyH.cons rfl (fun K hK => ?_) AllReadyH.nil)
                        have hpu := Sit.put sit6 (by have := HKC.out; have := HK.out; omega) false (j := (kn : Int)) (by omega) fp HFP.out HFB.out HLT.out
                        rw [if_neg hP] at hpu
                        generalize putE s false (kn : Int) fp = PE at hpu hP
                        have hPb : (PE == 0) = false := by simpa using hP
                        go_simp
                        go_at_call 18
                        refine Calls.mono hpu ?_
                        clear hpu
                        rintro e W7 ⟨he, F7, sit7, tr7⟩
                        obtain rfl := he
                        have tb7 := tb6.tr tr7
                        have lX7 := lX6.tr tr7
                        refine hK.out _ _ lX7.1 fun hS => ?_
                        try simp only [Act.put, nz]
                        clear sit6 tb6 lX6 tr7
                        refine tkH (i := 13) (v := .bool false) rfl (by kernel_rfl) (fun _ _ _ h => h) (Or.inl ⟨by rfl, fun w _ => by go_simp⟩) hS ?_
                        try simp only [Act.put, nz]
                        refine tkH (i := 14) (v := .bool false) rfl (by kernel_rfl) (fun _ _ _ h => h) (Or.inl ⟨by rfl, fun w _ => by go_simp⟩) hS ?_
                        try simp only [Act.put, nz]
                        refine wpAnyH_done (by kernel_rfl) ?_ _
                        go_wp2
                        go_roundw
                        case rel => exact ⟨k + 1, kc + 1 + 1, _, _, _, _, _, _, by first | rfl | simp, by have := HK.out; omega, by have := HKC.out; omega, sit7, tb7, HTD.out⟩
                        case measure => have := HK.out; simp only [intOf]; omega
                    · generalize appE l putB3 = EV at hE0 ⊢
                      have hEb : (EV == 0) = false := by simpa using hE0
                      clear hat hlr har
                      refine wp_region_held_drew (S := fun W => Row W X OA 36) (by kernel_rfl) lX4.1 fun hS => ?_
                      have sit5 := sit4.below (below_drew W4)
                      have tb5 := tb4.below (below_drew W4)
                      have lX5 := lX4.below (below_drew W4)
                      clear sit4 tb4 lX4
                      generalize W4.drew = W5 at hS sit5 tb5 lX5 ⊢
                      refine tkH (i := 0) (v := .int .i64 EV) rfl (by kernel_rfl) (fun _ _ _ h => h) (Or.inl ⟨by rfl, fun w _ => by rfl⟩) hS ?_
                      try simp only [Act.put, nz]
                      refine tkH (i := 1) (v := .bool false) rfl (by kernel_rfl) (fun _ _ _ h => h) (Or.inl ⟨by rfl, fun w _ => by go_simp⟩) hS ?_
                      try simp only [Act.put, nz]
                      refine tkH (i := 2) (v := .bool false) rfl (by kernel_rfl) (fun _ _ _ h => h) (Or.inl ⟨by rfl, fun w _ => by rfl⟩) hS ?_
                      try simp only [Act.put, nz]
                      refine tkH (i := 3) (v := undef) rfl (by kernel_rfl) (fun _ _ _ h => h) (Or.inr ⟨by rfl, by rfl⟩) hS ?_
                      try simp only [Act.put, nz]
                      refine tkH (i := 4) (v := undef) rfl (by kernel_rfl) (fun _ _ _ h => h) (Or.inr ⟨by rfl, by rfl⟩) hS ?_
                      try simp only [Act.put, nz]
                      refine tkH (i := 5) (v := undef) rfl (by kernel_rfl) (fun _ _ _ h => h) (Or.inr ⟨by rfl, by rfl⟩) hS ?_
                      try simp only [Act.put, nz]
                      refine tkH (i := 6) (v := undef) rfl (by kernel_rfl) (fun _ _ _ h => h) (Or.inr ⟨by rfl, by rfl⟩) hS ?_
                      try simp only [Act.put, nz]
                      refine tkH (i := 7) (v := undef) rfl (by kernel_rfl) (fun _ _ _ h => h) (Or.inr ⟨by rfl, by rfl⟩) hS ?_
                      try simp only [Act.put, nz]
                      refine tkH (i := 8) (v := undef) rfl (by kernel_rfl) (fun _ _ _ h => h) (Or.inr ⟨by rfl, by rfl⟩) hS ?_
                      try simp only [Act.put, nz]
                      refine tkH (i := 9) (v := undef) rfl (by kernel_rfl) (fun _ _ _ h => h) (Or.inr ⟨by rfl, by rfl⟩) hS ?_
                      try simp only [Act.put, nz]
                      refine tkH (i := 10) (v := undef) rfl (by kernel_rfl) (fun _ _ _ h => h) (Or.inr ⟨by rfl, by rfl⟩) hS ?_
                      try simp only [Act.put, nz]
                      refine tkH (i := 11) (v := undef) rfl (by kernel_rfl) (fun _ _ _ h => h) (Or.inr ⟨by rfl, by rfl⟩) hS ?_
                      try simp only [Act.put, nz]
                      refine tkH (i := 12) (v := undef) rfl (by kernel_rfl) (fun _ _ _ h => h) (Or.inr ⟨by rfl, by rfl⟩) hS ?_
                      try simp only [Act.put, nz]
                      refine tkH (i := 13) (v := undef) rfl (by kernel_rfl) (fun _ _ _ h => h) (Or.inr ⟨by rfl, by rfl⟩) hS ?_
                      try simp only [Act.put, nz]
                      refine tkH (i := 14) (v := .bool false) rfl (by kernel_rfl) (fun _ _ _ h => h) (Or.inl ⟨by rfl, fun w _ => by go_simp⟩) hS ?_
                      try simp only [Act.put, nz]
                      refine wpAnyH_done (by kernel_rfl) ?_ _
                      go_wp2
                      go_roundw
                      case rel => exact ⟨k + 1, kc + 1, _, _, _, _, _, _, by first | rfl | simp, by have := HK.out; omega, by have := HKC.out; omega, sit5, tb5, HTD.out⟩
                      case measure => have := HK.out; simp only [intOf]; omega
                  · have hk0 : ¬ kd = 0 := hkd
                    have hk2 : ¬ kd = 2 := hkd2
                    have hk0' : (kd == 0) = false := by simpa using hkd
                    have hk2' : (kd == 2) = false := by simpa using hkd2
                    have hdo := Sit.do_ HSI.out (by have := HKC.out; have := HK.out; omega) (HCK.out W3 HB3.out)
                    rw [HOA.out] at hdo
                    have tl : Hid (1 = 1) := rfl
                    go_upto_region 14 with (first
                      | (have hh := tl; clear hh tl; refine load_cells rfl 36 (.tmp 12) rfl X rfl 36 OA HLX.out.1 229 Try.underlying36 rfl size36 HOS.out ?_)
                      | (have hh := hdo; clear hh; go_at_call 9; refine Calls.mono hdo ?_; clear hdo; rintro e W4 ⟨he, F4, s4, l4, d4, la4, sit4, tr4, hla⟩; obtain rfl := he))
                    have tb4 := HTB.out.tr tr4
                    obtain rfl : la4 = la := hla hkd2
                    go_wp2
                    go_roundw
                    case rel => exact ⟨k + 1, kc + 1, _, _, _, _, _, _, by first | rfl | simp, by have := HK.out; omega, by have := HKC.out; omega, sit4, tb4, HTD.out⟩
                    case measure => have := HK.out; simp only [intOf]; omega
            | true =>
              go_upto_region 19 with fail
              by_cases hno : 15 < kn
              · have hno' : (15 : Int) < (kn : Int) := by omega
                go_wp2
                go_roundw
                case rel => exact ⟨k + 1, kc, _, _, _, _, _, _, by first | rfl | simp, by have := HK.out; omega, by have := HKC.out; omega, HSI.out, HTB.out, HTD.out⟩
                case measure => have := HK.out; simp only [intOf]; omega
              · have hno' : ¬ (15 : Int) < (kn : Int) := by omega
                have hn16 : (kn : Int) < 16 := by omega
                have hn0 : (0 : Int) ≤ (kn : Int) := by omega
                by_cases hkd : kd = 0
                · subst hkd
                  go_upto_region 23 with fail
                  have hfe := Sit.fetch HSI.out (by have := HKC.out; have := HK.out; omega) true (j := (kn : Int)) (by omega)
                  have tl : Hid (1 = 1) := rfl
                  have ts : Hid (1 = 1) := rfl
                  have hz34 := zero34
                  have HZP : Hid ((bs (zs 224)).size = 224) := by show _ = _; rw [bs_size]; exact zs_length _
                  generalize bs (zs 224) = ZP at hz34 HZP
                  go_upto_region 24 with (first
                    | (have hh := tl; clear hh tl; refine wpList_load_any rfl 31 (.tmp 79) rfl ⟨X, 1, none⟩ rfl [.bool true, .int .u16 (kn : Int)] _ qi Try.underlying31 rfl (by rw [size31]; rfl) ?_)
                    | (have hh := hfe; clear hh; go_at_call 16; refine Calls.mono hfe ?_; clear hfe; rintro e W4 ⟨p, E, F4, s4, l4, d4, he, hpl, sit4, tr4, hE⟩; obtain rfl := he; have HPS : Hid ((bs p).size = 224) := (by show _ = _; rw [bs_size]; exact hpl); have l14 : CLoc F4 (W4.alloc (.cells ZP 34)) W4.heap.size ZP 34 := ⟨Row.new _ _ _, fun q => by have := sit4.cs.2.1.lt _ q; omega⟩)
                    | (have hh := ts; clear hh ts; refine store_cells rfl 34 (.tmp 14) (.tmp 82) rfl W4.heap.size (bs p) rfl rfl 34 _ l14.1 224 size34 HZP.out HPS.out (bs_one _) ?_))
                  have rX4 := HLX.out.tr tr4
                  have tb4 := HTB.out.tr tr4
                  have ba : Below W4.heap.size W4 ((W4.alloc (.cells ZP 34)).setRow W4.heap.size (bs p)) := below_setRow ((Below.refl _ _).alloc (Nat.le_refl _) _) (Nat.le_refl _) _
                  have sit5 := sit4.below ba
                  have tb5 := tb4.below ba
                  have lX5 := rX4.below ba
                  have l145 := l14.set (bs p)
                  clear ba sit4 tb4 rX4 tr4 l14 hz34 HZP
                  generalize (W4.alloc (.cells ZP 34)).setRow W4.heap.size (bs p) = W5 at sit5 tb5 lX5 l145 ⊢
                  generalize W4.heap.size = A14 at l145 ⊢
                  have HS5 : Hid _ := sit5
                  have HT5 : Hid _ := tb5
                  by_cases hE0 : E = 0
                  · subst hE0
                    have hpe := (hE rfl).1
                    have htm : ps[(16 + kn)]? = some p := by rw [hpe]; exact HTD.out true kn (by omega)
                    have HTC : Hid (∀ w', Row w' A8 (bs ps.flatten) 48 → ∀ j v, (p.map (Value.int .u8))[j]? = some v → w'.cell? ((⟨A8, (16 + kn) * 224, none⟩ : Addr).add j) = some v) := fun w' hr => tb5.cells htm hr
                    have HPL : Hid (p.length = 224) := hpl
                    have HEQ : Hid (∀ w, (Op.equalIn 10000 34 (.agg (bs p)) (.agg (bs p))).run Try.prog w = .ok true w) := fun w => by
                      have := equal34 p p hpl hpl w
                      rw [this, decide_eq_true rfl]
                    refine wp_region_held_drew (S := fun W => Row W A14 (bs p) 34 ∧ Row W X OA 36 ∧ Row W A8 (bs ps.flatten) 48) (by kernel_rfl) ⟨l145.1, lX5.1, tb5.loc.1⟩ fun hS => ?_
                    have hsd := sit5.below (below_drew W5)
                    have tbd := tb5.below (below_drew W5)
                    clear sit5 tb5 lX5 l145 hE htm
                    generalize W5.drew = W6 at hS hsd tbd ⊢
                    refine tkH (i := 0) (v := .int .i64 0) rfl (by kernel_rfl) (fun _ _ _ h => h) (Or.inl ⟨by rfl, fun w _ => by rfl⟩) hS ?_
                    try simp only [Act.put, nz]
                    refine tkH (i := 1) (v := .bool true) rfl (by kernel_rfl) (fun _ _ _ h => h) (Or.inl ⟨by rfl, fun w _ => by go_simp⟩) hS ?_
                    try simp only [Act.put, nz]
                    refine tkH (i := 2) (v := .bool true) rfl (by kernel_rfl) (fun _ _ _ h => h) (Or.inl ⟨by rfl, fun w _ => by rfl⟩) hS ?_
                    try simp only [Act.put, nz]
                    refine tkH (i := 3) (v := .agg (bs p)) rfl (by kernel_rfl) (fun _ _ _ h => h) (yields_cells (by rfl) 34 (.tmp 14) rfl A14 rfl 34 (bs p) (fun w h => h.1) 224 Try.underlying34 rfl size34 HPS.out) hS ?_
                    try simp only [Act.put, nz]
                    refine tkH (i := 4) (v := .int .i64 1) rfl (by kernel_rfl) (fun _ _ _ h => h) (Or.inl ⟨by rfl, fun w _ => by go_simp⟩) hS ?_
                    try simp only [Act.put, nz]
                    refine tkH (i := 5) (v := .pointer (some ⟨X, 1, none⟩)) rfl (by kernel_rfl) (fun _ _ _ h => h) (Or.inl ⟨by rfl, fun w _ => by go_simp⟩) hS ?_
                    try simp only [Act.put, nz]
                    refine tkH (i := 6) (v := .pointer (some ⟨X, 2, none⟩)) rfl (by kernel_rfl) (fun _ _ _ h => h) (Or.inl ⟨by rfl, fun w _ => by go_simp⟩) hS ?_
                    try simp only [Act.put, nz]
                    refine tkH (i := 7) (v := .int .u16 kn) rfl (by kernel_rfl) (fun _ _ _ h => h) (Or.inl ⟨by rfl, fun w h => by have c := row_at (h.2.1) 2 _ HC2.out; go_simp⟩) hS ?_
                    try simp only [Act.put, nz]
                    refine tkH (i := 8) (v := .pointer (some ⟨A8, 3584, none⟩)) rfl (by kernel_rfl) (fun _ _ _ h => h) (Or.inl ⟨by rfl, fun w _ => by go_simp⟩) hS ?_
                    try simp only [Act.put, nz]
                    refine tkH (i := 9) (v := .pointer (some ⟨A8, (16 + kn) * 224, none⟩)) rfl (by kernel_rfl) (fun _ _ _ h => h) (Or.inl ⟨by rfl, fun w _ => by go_simp⟩) hS ?_
                    try simp only [Act.put, nz]
                    refine tkH (i := 10) (v := .agg (bs p)) rfl (by kernel_rfl) (fun _ _ _ h => h) (yields_any (by rfl) 34 (.tmp 93) rfl ⟨A8, (16 + kn) * 224, none⟩ rfl (p.map (Value.int .u8)) _ (fun w h => HTC.out w h.2.2) Try.underlying34 rfl (by rw [size34, List.length_map, HPL.out])) hS ?_
                    try simp only [Act.put, nz]
                    refine tkH (i := 11) (v := .bool false) rfl (by kernel_rfl) (fun _ _ _ h => h) (yields_neq (by rfl) 34 34 (.tmp 87) (.tmp 94) rfl (bs p) (bs p) rfl rfl Try.eqGuardType34 true HEQ.out) hS ?_
                    try simp only [Act.put, nz]
                    refine tkH (i := 12) (v := .bool false) rfl (by kernel_rfl) (fun _ _ _ h => h) (Or.inl ⟨by rfl, fun w _ => by go_simp⟩) hS ?_
                    try simp only [Act.put, nz]
                    refine wpAnyH_done (by kernel_rfl) ?_ _
                    go_wp2
                    go_roundw
                    case rel => exact ⟨k + 1, kc + 1, _, _, _, _, _, _, by first | rfl | simp, by have := HK.out; omega, by have := HKC.out; omega, hsd, tbd, HTD.out⟩
                    case measure => have := HK.out; simp only [intOf]; omega
                  · have hEb : (E == 0) = false := by simpa using hE0
                    refine wp_region_held_drew (S := fun _ => True) (by kernel_rfl) trivial fun hS => ?_
                    have hsd := sit5.below (below_drew W5)
                    have tbd := tb5.below (below_drew W5)
                    clear sit5 tb5 lX5 l145 hE
                    generalize W5.drew = W6 at hsd tbd ⊢
                    refine tkH (i := 0) (v := .int .i64 E) rfl (by kernel_rfl) (fun _ _ _ h => h) (Or.inl ⟨by rfl, fun w _ => by rfl⟩) hS ?_
                    try simp only [Act.put, nz]
                    refine tkH (i := 1) (v := .bool false) rfl (by kernel_rfl) (fun _ _ _ h => h) (Or.inl ⟨by rfl, fun w _ => by go_simp⟩) hS ?_
                    try simp only [Act.put, nz]
                    refine tkH (i := 2) (v := .bool false) rfl (by kernel_rfl) (fun _ _ _ h => h) (Or.inl ⟨by rfl, fun w _ => by rfl⟩) hS ?_
                    try simp only [Act.put, nz]
                    refine tkH (i := 3) (v := undef) rfl (by kernel_rfl) (fun _ _ _ h => h) (Or.inr ⟨by rfl, by rfl⟩) hS ?_
                    try simp only [Act.put, nz]
                    refine tkH (i := 4) (v := undef) rfl (by kernel_rfl) (fun _ _ _ h => h) (Or.inr ⟨by rfl, by rfl⟩) hS ?_
                    try simp only [Act.put, nz]
                    refine tkH (i := 5) (v := undef) rfl (by kernel_rfl) (fun _ _ _ h => h) (Or.inr ⟨by rfl, by rfl⟩) hS ?_
                    try simp only [Act.put, nz]
                    refine tkH (i := 6) (v := undef) rfl (by kernel_rfl) (fun _ _ _ h => h) (Or.inr ⟨by rfl, by rfl⟩) hS ?_
                    try simp only [Act.put, nz]
                    refine tkH (i := 7) (v := undef) rfl (by kernel_rfl) (fun _ _ _ h => h) (Or.inr ⟨by rfl, by rfl⟩) hS ?_
                    try simp only [Act.put, nz]
                    refine tkH (i := 8) (v := undef) rfl (by kernel_rfl) (fun _ _ _ h => h) (Or.inr ⟨by rfl, by rfl⟩) hS ?_
                    try simp only [Act.put, nz]
                    refine tkH (i := 9) (v := undef) rfl (by kernel_rfl) (fun _ _ _ h => h) (Or.inr ⟨by rfl, by rfl⟩) hS ?_
                    try simp only [Act.put, nz]
                    refine tkH (i := 10) (v := undef) rfl (by kernel_rfl) (fun _ _ _ h => h) (Or.inr ⟨by rfl, by rfl⟩) hS ?_
                    try simp only [Act.put, nz]
                    refine tkH (i := 11) (v := undef) rfl (by kernel_rfl) (fun _ _ _ h => h) (Or.inr ⟨by rfl, by rfl⟩) hS ?_
                    try simp only [Act.put, nz]
                    refine tkH (i := 12) (v := .bool false) rfl (by kernel_rfl) (fun _ _ _ h => h) (Or.inl ⟨by rfl, fun w _ => by go_simp⟩) hS ?_
                    try simp only [Act.put, nz]
                    refine wpAnyH_done (by kernel_rfl) ?_ _
                    go_wp2
                    go_roundw
                    case rel => exact ⟨k + 1, kc + 1, _, _, _, _, _, _, by first | rfl | simp, by have := HK.out; omega, by have := HKC.out; omega, hsd, tbd, HTD.out⟩
                    case measure => have := HK.out; simp only [intOf]; omega
                · by_cases hkd2 : kd = 2
                  · subst hkd2
                    have hap := Sit.append HSI.out (by have := HKC.out; have := HK.out; omega) putB3 (by decide)
                    have hat := appL_told l putB3
                    have hlr := HSI.out.st.lsn (by have := HKC.out; have := HK.out; omega)
                    have har : 0 ≤ appA l putB3 ∧ appA l putB3 ≤ 18446744073709551615 := by
                      unfold appA
                      split
                      · exact hlr
                      · omega
                    go_upto_region 28 with (have hh := hap; clear hh; go_at_call 17; refine Calls.mono hap ?_; clear hap; rintro e W4 ⟨he, F4, sit4, tr4⟩; obtain rfl := he)
                    have lX4 := HLX.out.tr tr4
                    have tb4 := HTB.out.tr tr4
                    clear tr4 q0 q1 q2 qi
                    by_cases hE0 : appE l putB3 = 0
                    · obtain ⟨ha1, ha2⟩ := hat.2.2.2.2 hE0
                      have HLT : Hid (lsnP (fillP true (kn : Int) b (appA l putB3)) < (appL l putB3).fin) := by show _ < _; rw [lsnP_fill _ _ _ _ hbb har, ha1]; exact ha2
                      have HFP : Hid ((fillP true (kn : Int) b (appA l putB3)).length = 224) := fillP_length _ _ _ _
                      have HFB : Hid (Bytes (fillP true (kn : Int) b (appA l putB3))) := fillP_bytes _ _ _ _
                      have HFL : Hid (∀ W, Calls Try.prog 19 #[.agg #[.bool true, .int .u16 (kn : Int)], .int .u8 b, .int .u64 (appA l putB3)] W fun e w' => e = .returned (.agg (bs (fillP true (kn : Int) b (appA l putB3)))) ∧ Below W.heap.size W w') := fun W => fill_any true (kn : Int) b (appA l putB3) (wfu_mk (by omega)) hbb har W
                      generalize fillP true (kn : Int) b (appA l putB3) = fp at HLT HFP HFB HFL
                      have HFS : Hid ((bs fp).size = 224) := by show _ = _; rw [bs_size]; exact HFP.out
                      rw [hE0]
                      clear hat ha1 ha2 hlr
                      refine wp_region_held_drew (S := fun W => Row W X OA 36) (by kernel_rfl) lX4.1 fun hS => ?_
                      have sit5 := sit4.below (below_drew W4)
                      have tb5 := tb4.below (below_drew W4)
                      have lX5 := lX4.below (below_drew W4)
                      clear sit4 tb4 lX4
                      generalize W4.drew = W5 at hS sit5 tb5 lX5 ⊢
                      refine tkH (i := 0) (v := .int .i64 0) rfl (by kernel_rfl) (fun _ _ _ h => h) (Or.inl ⟨by rfl, fun w _ => by rfl⟩) hS ?_
                      try simp only [Act.put, nz]
                      refine tkH (i := 1) (v := .bool true) rfl (by kernel_rfl) (fun _ _ _ h => h) (Or.inl ⟨by rfl, fun w _ => by go_simp⟩) hS ?_
                      try simp only [Act.put, nz]
                      refine tkH (i := 2) (v := .bool true) rfl (by kernel_rfl) (fun _ _ _ h => h) (Or.inl ⟨by rfl, fun w _ => by rfl⟩) hS ?_
                      try simp only [Act.put, nz]
                      refine tkH (i := 3) (v := .pointer (some ⟨gc, 0, none⟩)) rfl (by kernel_rfl) (fun _ _ _ h => h) (Or.inl ⟨by rfl, fun w _ => by rfl⟩) hS ?_
                      try simp only [Act.put, nz]
                      refine tkH (i := 4) (v := .pointer (some ⟨X, 1, none⟩)) rfl (by kernel_rfl) (fun _ _ _ h => h) (Or.inl ⟨by rfl, fun w _ => by go_simp⟩) hS ?_
                      try simp only [Act.put, nz]
                      refine tkH (i := 5) (v := .agg #[.bool true, .int .u16 (kn : Int)]) rfl (by kernel_rfl) (fun _ _ _ h => h) (yields_any (by rfl) 31 (.tmp 108) rfl ⟨X, 1, none⟩ rfl [.bool true, .int .u16 (kn : Int)] _ (fun w h => HQI.out w (h)) Try.underlying31 rfl (by rw [size31]; rfl)) hS ?_
                      try simp only [Act.put, nz]
                      refine tkH (i := 6) (v := .pointer (some ⟨X, 1, none⟩)) rfl (by kernel_rfl) (fun _ _ _ h => h) (Or.inl ⟨by rfl, fun w _ => by go_simp⟩) hS ?_
                      try simp only [Act.put, nz]
                      refine tkH (i := 7) (v := .agg #[.bool true, .int .u16 (kn : Int)]) rfl (by kernel_rfl) (fun _ _ _ h => h) (yields_any (by rfl) 31 (.tmp 110) rfl ⟨X, 1, none⟩ rfl [.bool true, .int .u16 (kn : Int)] _ (fun w h => HQI.out w (h)) Try.underlying31 rfl (by rw [size31]; rfl)) hS ?_
                      try simp only [Act.put, nz]
                      refine tkH (i := 8) (v := .pointer (some ⟨X, 3, none⟩)) rfl (by kernel_rfl) (fun _ _ _ h => h) (Or.inl ⟨by rfl, fun w _ => by go_simp⟩) hS ?_
                      try simp only [Act.put, nz]
                      refine tkH (i := 9) (v := .int .u8 b) rfl (by kernel_rfl) (fun _ _ _ h => h) (Or.inl ⟨by rfl, fun w h => by have c := row_at (h) 3 _ HC3.out; go_simp⟩) hS ?_
                      try simp only [Act.put, nz]
                      refine tkH (i := 10) (v := .int .u64 (appA l putB3)) rfl (by kernel_rfl) (fun _ _ _ h => h) (Or.inl ⟨by rfl, fun w _ => by rfl⟩) hS ?_
                      try simp only [Act.put, nz]
                      refine wpAnyH_ready (rs := [11]) (by kernel_rfl) (by simp) ?_
                      refine (AllReadyH.cons rfl (fun K hK => ?_) AllReadyH.nil)
                      have hfl := HFL.out W5
                      go_simp
                      go_at_call 19
                      refine Calls.mono hfl ?_
                      clear hfl
                      rintro e W6 ⟨he, hb6⟩
                      obtain rfl := he
                      have sit6 := sit5.below hb6
                      have tb6 := tb5.below hb6
                      have lX6 := lX5.below hb6
                      refine hK.out _ _ lX6.1 fun hS => ?_
                      try simp only [Act.put, nz]
                      clear sit5 tb5 lX5 hb6
                      by_cases hP : putE s true (kn : Int) fp = 0
                      · refine wpAnyH_ready (rs := [12]) (by kernel_rfl) (by simp) ?_
                        refine (AllReadyH.cons rfl (fun K hK => ?_) AllReadyH.nil)
                        have hpu := Sit.put sit6 (by have := HKC.out; have := HK.out; omega) true (j := (kn : Int)) (by omega) fp HFP.out HFB.out HLT.out
                        rw [if_pos hP, hP] at hpu
                        go_simp
                        go_at_call 18
                        refine Calls.mono hpu ?_
                        clear hpu
                        rintro e W7 ⟨he, F7, sit7, tr7⟩
                        obtain rfl := he
                        have tb7 := tb6.tr tr7
                        have lX7 := lX6.tr tr7
                        refine hK.out _ _ lX7.1 fun hS => ?_
                        try simp only [Act.put, nz]
                        clear sit6 tb6 lX6 tr7
                        refine tkH (i := 13) (v := .bool true) rfl (by kernel_rfl) (fun _ _ _ h => h) (Or.inl ⟨by rfl, fun w _ => by go_simp⟩) hS ?_
                        try simp only [Act.put, nz]
                        refine tkH (i := 14) (v := .bool true) rfl (by kernel_rfl) (fun _ _ _ h => h) (Or.inl ⟨by rfl, fun w _ => by go_simp⟩) hS ?_
                        try simp only [Act.put, nz]
                        refine wpAnyH_done (by kernel_rfl) ?_ _
                        go_upto_region 29 with fail
                        refine wp_region_held_drew (S := fun W => Row W X OA 36) (by kernel_rfl) lX7.1 fun hS => ?_
                        have sit8 := sit7.below (below_drew W7)
                        have tb8 := tb7.below (below_drew W7)
                        have lX8 := lX7.below (below_drew W7)
                        clear sit7 tb7 lX7
                        generalize W7.drew = W8 at hS sit8 tb8 lX8 ⊢
                        refine tkH (i := 0) (v := .int .i64 1) rfl (by kernel_rfl) (fun _ _ _ h => h) (Or.inl ⟨by rfl, fun w _ => by go_simp⟩) hS ?_
                        try simp only [Act.put, nz]
                        refine tkH (i := 1) (v := .pointer (some ⟨X, 1, none⟩)) rfl (by kernel_rfl) (fun _ _ _ h => h) (Or.inl ⟨by rfl, fun w _ => by go_simp⟩) hS ?_
                        try simp only [Act.put, nz]
                        refine tkH (i := 2) (v := .pointer (some ⟨X, 2, none⟩)) rfl (by kernel_rfl) (fun _ _ _ h => h) (Or.inl ⟨by rfl, fun w _ => by go_simp⟩) hS ?_
                        try simp only [Act.put, nz]
                        refine tkH (i := 3) (v := .int .u16 kn) rfl (by kernel_rfl) (fun _ _ _ h => h) (Or.inl ⟨by rfl, fun w h => by have c := row_at (h) 2 _ HC2.out; go_simp⟩) hS ?_
                        try simp only [Act.put, nz]
                        refine tkH (i := 4) (v := .pointer (some ⟨X, 1, none⟩)) rfl (by kernel_rfl) (fun _ _ _ h => h) (Or.inl ⟨by rfl, fun w _ => by go_simp⟩) hS ?_
                        try simp only [Act.put, nz]
                        refine tkH (i := 5) (v := .agg #[.bool true, .int .u16 (kn : Int)]) rfl (by kernel_rfl) (fun _ _ _ h => h) (yields_any (by rfl) 31 (.tmp 123) rfl ⟨X, 1, none⟩ rfl [.bool true, .int .u16 (kn : Int)] _ (fun w h => HQI.out w (h)) Try.underlying31 rfl (by rw [size31]; rfl)) hS ?_
                        try simp only [Act.put, nz]
                        refine tkH (i := 6) (v := .pointer (some ⟨X, 3, none⟩)) rfl (by kernel_rfl) (fun _ _ _ h => h) (Or.inl ⟨by rfl, fun w _ => by go_simp⟩) hS ?_
                        try simp only [Act.put, nz]
                        refine tkH (i := 7) (v := .int .u8 b) rfl (by kernel_rfl) (fun _ _ _ h => h) (Or.inl ⟨by rfl, fun w h => by have c := row_at (h) 3 _ HC3.out; go_simp⟩) hS ?_
                        try simp only [Act.put, nz]
                        refine tkH (i := 8) (v := .int .u64 (appA l putB3)) rfl (by kernel_rfl) (fun _ _ _ h => h) (Or.inl ⟨by rfl, fun w _ => by rfl⟩) hS ?_
                        try simp only [Act.put, nz]
                        refine tkH (i := 10) (v := .pointer (some ⟨A8, 3584, none⟩)) rfl (by kernel_rfl) (fun _ _ _ h => h) (Or.inl ⟨by rfl, fun w _ => by go_simp⟩) hS ?_
                        try simp only [Act.put, nz]
                        refine wpAnyH_ready (rs := [9]) (by kernel_rfl) (by simp) ?_
                        refine (AllReadyH.cons rfl (fun K hK => ?_) AllReadyH.nil)
                        have hfl := HFL.out W8
                        go_simp
                        go_at_call 19
                        refine Calls.mono hfl ?_
                        clear hfl
                        rintro e W9 ⟨he, hb9⟩
                        obtain rfl := he
                        have sit9 := sit8.below hb9
                        have tb9 := tb8.below hb9
                        have lX9 := lX8.below hb9
                        refine hK.out _ _ lX9.1 fun hS => ?_
                        try simp only [Act.put, nz]
                        clear sit8 tb8 lX8 hb9
                        refine tkH (i := 11) (v := .pointer (some ⟨A8, (16 + kn) * 224, none⟩)) rfl (by kernel_rfl) (fun _ _ _ h => h) (Or.inl ⟨by rfl, fun w _ => by go_simp⟩) hS ?_
                        try simp only [Act.put, nz]
                        refine wpAnyH_ready (rs := [12]) (by kernel_rfl) (by simp) ?_
                        refine (AllReadyH.cons rfl (fun K hK => ?_) AllReadyH.nil)
                        have hth := tb9.there (m := (16 + kn)) (by omega)
                        have tbs := tb9.set (m := (16 + kn)) (by omega) (p := fp) HFP.out
                        have sib := sit9.setCells hA8 tb9.loc.2 ((16 + kn) * 224) (bs fp).toList
                        have hto : Told (lastP la true (kn : Int) fp) (ps.set (16 + kn) fp) := HTD.out.put tb9.len true (j := kn) (by omega) fp
                        have lXs : Row (W9.setCells A8 ((16 + kn) * 224) (bs fp).toList) X OA 36 := lX9.1.off (Off.of_setCells A8 _ _ _) (fun q => HXA.out q.symm)
                        refine Cl.step_of rfl (wp_store_mid 34 (.tmp 130) (.tmp 128) rfl A8 ((16 + kn) * 224) (bs fp) rfl rfl (by rw [HFS.out]; exact hth) (by rw [HFS.out]; exact size34) (bs_one _) ?_)
                        refine hK.out _ _ lXs fun hS => ?_
                        try simp only [Act.put, nz]
                        refine wpAnyH_done (by kernel_rfl) ?_ _
                        clear hth sit9 tb9 lX9 lXs hS
                        generalize W9.setCells A8 ((16 + kn) * 224) (bs fp).toList = We at tbs sib ⊢
                        go_wp2
                        go_roundw
                        case rel => exact ⟨k + 1, kc + 1 + 1, _, _, _, _, _, _, by first | rfl | simp, by have := HK.out; omega, by have := HKC.out; omega, sib, tbs, hto⟩
                        case measure => have := HK.out; simp only [intOf]; omega
                      · refine wpAnyH_ready (rs := [12]) (by kernel_rfl) (by simp) ?_
                        refine (AllReadyH.cons rfl (fun K hK => ?_) AllReadyH.nil)
                        have hpu := Sit.put sit6 (by have := HKC.out; have := HK.out; omega) true (j := (kn : Int)) (by omega) fp HFP.out HFB.out HLT.out
                        rw [if_neg hP] at hpu
                        generalize putE s true (kn : Int) fp = PE at hpu hP
                        have hPb : (PE == 0) = false := by simpa using hP
                        go_simp
                        go_at_call 18
                        refine Calls.mono hpu ?_
                        clear hpu
                        rintro e W7 ⟨he, F7, sit7, tr7⟩
                        obtain rfl := he
                        have tb7 := tb6.tr tr7
                        have lX7 := lX6.tr tr7
                        refine hK.out _ _ lX7.1 fun hS => ?_
                        try simp only [Act.put, nz]
                        clear sit6 tb6 lX6 tr7
                        refine tkH (i := 13) (v := .bool false) rfl (by kernel_rfl) (fun _ _ _ h => h) (Or.inl ⟨by rfl, fun w _ => by go_simp⟩) hS ?_
                        try simp only [Act.put, nz]
                        refine tkH (i := 14) (v := .bool false) rfl (by kernel_rfl) (fun _ _ _ h => h) (Or.inl ⟨by rfl, fun w _ => by go_simp⟩) hS ?_
                        try simp only [Act.put, nz]
                        refine wpAnyH_done (by kernel_rfl) ?_ _
                        go_wp2
                        go_roundw
                        case rel => exact ⟨k + 1, kc + 1 + 1, _, _, _, _, _, _, by first | rfl | simp, by have := HK.out; omega, by have := HKC.out; omega, sit7, tb7, HTD.out⟩
                        case measure => have := HK.out; simp only [intOf]; omega
                    · generalize appE l putB3 = EV at hE0 ⊢
                      have hEb : (EV == 0) = false := by simpa using hE0
                      clear hat hlr har
                      refine wp_region_held_drew (S := fun W => Row W X OA 36) (by kernel_rfl) lX4.1 fun hS => ?_
                      have sit5 := sit4.below (below_drew W4)
                      have tb5 := tb4.below (below_drew W4)
                      have lX5 := lX4.below (below_drew W4)
                      clear sit4 tb4 lX4
                      generalize W4.drew = W5 at hS sit5 tb5 lX5 ⊢
                      refine tkH (i := 0) (v := .int .i64 EV) rfl (by kernel_rfl) (fun _ _ _ h => h) (Or.inl ⟨by rfl, fun w _ => by rfl⟩) hS ?_
                      try simp only [Act.put, nz]
                      refine tkH (i := 1) (v := .bool false) rfl (by kernel_rfl) (fun _ _ _ h => h) (Or.inl ⟨by rfl, fun w _ => by go_simp⟩) hS ?_
                      try simp only [Act.put, nz]
                      refine tkH (i := 2) (v := .bool false) rfl (by kernel_rfl) (fun _ _ _ h => h) (Or.inl ⟨by rfl, fun w _ => by rfl⟩) hS ?_
                      try simp only [Act.put, nz]
                      refine tkH (i := 3) (v := undef) rfl (by kernel_rfl) (fun _ _ _ h => h) (Or.inr ⟨by rfl, by rfl⟩) hS ?_
                      try simp only [Act.put, nz]
                      refine tkH (i := 4) (v := undef) rfl (by kernel_rfl) (fun _ _ _ h => h) (Or.inr ⟨by rfl, by rfl⟩) hS ?_
                      try simp only [Act.put, nz]
                      refine tkH (i := 5) (v := undef) rfl (by kernel_rfl) (fun _ _ _ h => h) (Or.inr ⟨by rfl, by rfl⟩) hS ?_
                      try simp only [Act.put, nz]
                      refine tkH (i := 6) (v := undef) rfl (by kernel_rfl) (fun _ _ _ h => h) (Or.inr ⟨by rfl, by rfl⟩) hS ?_
                      try simp only [Act.put, nz]
                      refine tkH (i := 7) (v := undef) rfl (by kernel_rfl) (fun _ _ _ h => h) (Or.inr ⟨by rfl, by rfl⟩) hS ?_
                      try simp only [Act.put, nz]
                      refine tkH (i := 8) (v := undef) rfl (by kernel_rfl) (fun _ _ _ h => h) (Or.inr ⟨by rfl, by rfl⟩) hS ?_
                      try simp only [Act.put, nz]
                      refine tkH (i := 9) (v := undef) rfl (by kernel_rfl) (fun _ _ _ h => h) (Or.inr ⟨by rfl, by rfl⟩) hS ?_
                      try simp only [Act.put, nz]
                      refine tkH (i := 10) (v := undef) rfl (by kernel_rfl) (fun _ _ _ h => h) (Or.inr ⟨by rfl, by rfl⟩) hS ?_
                      try simp only [Act.put, nz]
                      refine tkH (i := 11) (v := undef) rfl (by kernel_rfl) (fun _ _ _ h => h) (Or.inr ⟨by rfl, by rfl⟩) hS ?_
                      try simp only [Act.put, nz]
                      refine tkH (i := 12) (v := undef) rfl (by kernel_rfl) (fun _ _ _ h => h) (Or.inr ⟨by rfl, by rfl⟩) hS ?_
                      try simp only [Act.put, nz]
                      refine tkH (i := 13) (v := undef) rfl (by kernel_rfl) (fun _ _ _ h => h) (Or.inr ⟨by rfl, by rfl⟩) hS ?_
                      try simp only [Act.put, nz]
                      refine tkH (i := 14) (v := .bool false) rfl (by kernel_rfl) (fun _ _ _ h => h) (Or.inl ⟨by rfl, fun w _ => by go_simp⟩) hS ?_
                      try simp only [Act.put, nz]
                      refine wpAnyH_done (by kernel_rfl) ?_ _
                      go_wp2
                      go_roundw
                      case rel => exact ⟨k + 1, kc + 1, _, _, _, _, _, _, by first | rfl | simp, by have := HK.out; omega, by have := HKC.out; omega, sit5, tb5, HTD.out⟩
                      case measure => have := HK.out; simp only [intOf]; omega
                  · have hk0 : ¬ kd = 0 := hkd
                    have hk2 : ¬ kd = 2 := hkd2
                    have hk0' : (kd == 0) = false := by simpa using hkd
                    have hk2' : (kd == 2) = false := by simpa using hkd2
                    have hdo := Sit.do_ HSI.out (by have := HKC.out; have := HK.out; omega) (HCK.out W3 HB3.out)
                    rw [HOA.out] at hdo
                    have tl : Hid (1 = 1) := rfl
                    go_upto_region 14 with (first
                      | (have hh := tl; clear hh tl; refine load_cells rfl 36 (.tmp 12) rfl X rfl 36 OA HLX.out.1 229 Try.underlying36 rfl size36 HOS.out ?_)
                      | (have hh := hdo; clear hh; go_at_call 9; refine Calls.mono hdo ?_; clear hdo; rintro e W4 ⟨he, F4, s4, l4, d4, la4, sit4, tr4, hla⟩; obtain rfl := he))
                    have tb4 := HTB.out.tr tr4
                    obtain rfl : la4 = la := hla hkd2
                    go_wp2
                    go_roundw
                    case rel => exact ⟨k + 1, kc + 1, _, _, _, _, _, _, by first | rfl | simp, by have := HK.out; omega, by have := HKC.out; omega, sit4, tb4, HTD.out⟩
                    case measure => have := HK.out; simp only [intOf]; omega
          · have hk8' : ¬ (k : Int) < 80 := by omega
            have haw := HAW.out wr
            go_wp2_with (go_at_call 14; refine Calls.mono haw ?_; clear haw; rintro e W5 ⟨he, hb⟩; obtain rfl := he)
            rw [HPP.out]
            exact ⟨rfl, sit.cs.1.trans (hb.mono sit.cs.1.size)⟩
        · have hkX' : ¬ (k : Int) < (cs.length : Int) := by omega
          have haw := HAW.out wr
          go_wp2_with (go_at_call 14; refine Calls.mono haw ?_; clear haw; rintro e W5 ⟨he, hb⟩; obtain rfl := he)
          rw [HPP.out]
          exact ⟨rfl, sit.cs.1.trans (hb.mono sit.cs.1.size)⟩
set_option maxRecDepth 100000 in
theorem lifted (os : Os) (started : os.Started) (H : Type) (enc : TypeId × Value → H) :
    ReturnsInHanded {} Try.checked os 4 .any (Rows.cacheSeesSpec.pre6 enc Try.prog Try.f4 Rows.cacheSeesRow.domain false) (Rows.cacheSeesSpec.post enc Try.prog Try.f4 false true false false) := by
  refine returnsInHanded_of_change_sized (C := Try.checked) own started (by kernel_rfl) Try.func4
    (ChangeSpec.witness6 (enc := enc) (C := Try.checked) false ⟨#[], #[.int .u8 0, .slice none 0 0], []⟩ 8 (by kernel_rfl) (by kernel_rfl) (by kernel_rfl) (by kernel_rfl)) ?_
  intro W base args ds gs before hval0 hW hcnd hsz0 _
  have hval : ∀ (j : Nat) t v, Try.f4.params[j]? = some t → args[j]? = some v → Value.okWide Try.prog W .any base t v := hval0
  have hW' := hW
  obtain ⟨p, q, hA0, hV, rfl, hfz, hnd⟩ := hW
  have hA : DataW.TrodAll enc Try.prog W 0 (fun _ => true) true Try.f4.params.toList args.toList ds p := hA0
  have hsz : (DataW.weightsEach Try.prog (Try.f4.params.toList ++ []) (ds ++ gs)).all (· ≤ reachBytes) = true := hsz0
  rw [Try.params4] at hA hval hsz
  obtain ⟨v0, vs0, d0, ds0, p0, q0, hargs, rfl, rfl, h0, r0⟩ := trodAll_cons hA
  obtain ⟨v1, vs1, d1, ds1, p1, q1, rfl, rfl, rfl, h1, r1⟩ := trodAll_cons r0
  obtain ⟨rfl, rfl, rfl⟩ := trodAll_nil r1
  obtain rfl : args = #[v0, v1] := by cases args; simp_all
  obtain ⟨rfl, rfl⟩ := trodVars_none hV
  simp only [List.append_nil] at hsz
  have hlt : ∀ x ∈ (p0 ++ (p1 ++ [])), x.block < W.heap.size := fun x hx => hW'.lt x (by simpa using hx)
  have hw0 : (d0.weights Try.prog 5).all (· ≤ reachBytes) = true := List.all_eq_true.2 fun m hm => List.all_eq_true.1 hsz m (by simp [DataW.weightsEach, hm])
  have hw1 : (d1.weights Try.prog 22).all (· ≤ reachBytes) = true := List.all_eq_true.2 fun m hm => List.all_eq_true.1 hsz m (by simp [DataW.weightsEach, hm])
  have k0 := h0
  have k1 := h1
  obtain ⟨a0, rfl, rfl, rfl, w0⟩ := open_int Try.underlying5 (hval 0 5 v0 rfl rfl) h0
  obtain ⟨a1, w1⟩ := open_xos (hval 1 22 v1 rfl rfl) h1 hw1
  clear hA0 hval0
  simp only [List.append_nil] at hW'
  refine (walk W a0 v1 a1 w0 w1).mono fun e W' ⟨he, hg⟩ => ?_
  subst he
  exact ⟨_, rfl, ⟨_, _, _, [], ([] ++ (p1 ++ [])), [], hW', (trodAll_cons_mk (shut_bool Try.underlying4 _) trodAll_mk0), (trodAll_cons_mk (Below.trod laidOut (by kernel_rfl) (of_decide_eq_true (by kernel_rfl)) k0 hg (fun x hx => (nomatch hx))) (trodAll_cons_mk (Below.trod laidOut (by kernel_rfl) (of_decide_eq_true (by kernel_rfl)) k1 hg (fun x hx => hlt x (by simp [hx]))) trodAll_mk0)), rfl,
    hg.frame _, fun h => by cases h⟩⟩
theorem over : Rows.cacheSeesRow.holds Try.pinned (OpenSpec.ofChange Rows.cacheSeesSpec) :=
  OpenClaim.holds_of_wide 4 Try.f4 rfl rfl rfl rfl rfl rfl rfl ⟨rfl, rfl, rfl, rfl, rfl⟩ rfl rfl rfl rfl rfl (by kernel_rfl) Try.func4 (by kernel_rfl)
    (of_decide_eq_true (by kernel_rfl)) (by unfold Func.isWrapper; first | (rw [if_pos (by decide +kernel)]; kernel_rfl) | (rw [if_neg (by decide +kernel)]; exact ⟨rfl, rfl⟩))
    (fun os started H enc _ => lifted os started H enc)
theorem proved : Rows.CacheSeesSaid :=
  over
#print axioms proved
end Go.Proofs.Ytehogiondcpbcaa.cacheSees
