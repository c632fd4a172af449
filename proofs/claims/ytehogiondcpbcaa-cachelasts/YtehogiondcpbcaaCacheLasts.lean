/-
  CacheLasts: a page that is clean lasts.
-/
import Derived.Test.YtehogiondcpbcaaJq36
import Derived.SizedLaws
import Derived.Deep.Grids
import Derived.Deep.Slices
import Derived.Lib.SmallJoins
import Derived.Carry
import Derived.BigQuiet
import Derived.Deep.CutRange
import Derived.Deep.CutBlock
namespace Go.Proofs.Ytehogiondcpbcaa.cacheLasts
open Go.ChangeShapes Go.WideShapes Go.ChangeAt Go.RowKit
open Go.Deep
set_option linter.unusedVariables false
set_option linter.unusedSimpArgs false
theorem own : ownKnob Try.prog.godebug = none := by kernel_rfl
set_option maxRecDepth 20000
theorem bound_u8 {i : Int} (h : (Lit.int .u8 i).wf = true) : 0 ≤ i ∧ i ≤ 255 := by
  have e : (Lit.int .u8 i).wf = (decide ((0 : Int) ≤ i) && decide (i ≤ 255)) := rfl
  rw [e] at h; simpa using h
theorem size36 : (Try.prog.info? 36).map (·.size) = some 229 := by kernel_rfl
def nB (H : List Bool) : Array Value := (H.map Value.bool).toArray
theorem nB_at {H : List Bool} {m : Nat} {x : Bool} (h : H[m]? = some x) : (nB H)[m]? = some (.bool x) := by
  unfold nB
  rw [List.getElem?_toArray, List.getElem?_map, h]; rfl
theorem nB_set (H : List Bool) (m : Nat) (x : Bool) : (nB H).setIfInBounds m (.bool x) = nB (H.set m x) := by
  unfold nB
  rw [List.setIfInBounds_toArray, List.map_set]
def no8 : List Bool := List.replicate 8 false
theorem zero64 (w : World) : (zeroValue 64).run Try.prog w = .ok (.agg (bs (zs 1792))) w := (zero_of_info (P := Try.prog) (t := 64) (v := .agg (bs (zs 1792))) (n := 1792) (by kernel_rfl)).1 w
theorem zero66 (w : World) : (zeroValue 66).run Try.prog w = .ok (.agg (nB no8)) w := (zero_of_info (P := Try.prog) (t := 66) (v := .agg (nB no8)) (n := 8) (by kernel_rfl)).1 w
theorem zs_flat8 : (List.replicate 8 (zs 224)).flatten = zs 1792 := by decide +kernel
theorem built31b (u : Bool) (no : Int) : (Try.prog.built 31 [(0, .bool u), (1, .int .u16 no)]) = some #[.bool u, .int .u16 no] := by kernel_rfl
theorem zero31p (w : World) : (zeroValue 31).run Try.prog w = .ok (.agg #[.bool false, .int .u16 0]) w := zero31 w
structure Kp (s : Cs) (la : Bool → Int → List Int) (GP : List (List Int)) (KB : List Bool) : Prop where
  len : KB.length = 8
  at_ : ∀ q j : Nat, q < 2 → j < 4 → KB[q * 4 + j]? = some true → GP[q * 4 + j]? = some (la (decide (q = 1)) j) ∧ cleanC s (decide (q = 1)) j = true
theorem Kp.start (s : Cs) (la : Bool → Int → List Int) (GP : List (List Int)) : Kp s la GP no8 := ⟨rfl, fun q j hq hj h => by
  unfold no8 at h
  rw [List.getElem?_replicate, if_pos (by omega)] at h
  cases h⟩
theorem Kp.put {s s' : Cs} {la : Bool → Int → List Int} {GP : List (List Int)} {KB : List Bool} (h : Kp s la GP KB) (hl : GP.length = 8) {q j : Nat} (hq : q < 2) (hj : j < 4) {p : List Int} (hp : p = la (decide (q = 1)) j) (hc : cleanC s' (decide (q = 1)) j = true) (hk : ∀ u i, cleanC s u i = true → cleanC s' u i = true) : Kp s' la (GP.set (q * 4 + j) p) (KB.set (q * 4 + j) true) := by
  refine ⟨by rw [List.length_set]; exact h.len, fun a b ha hb hab => ?_⟩
  by_cases c : q * 4 + j = a * 4 + b
  · obtain ⟨rfl, rfl⟩ : q = a ∧ j = b := by omega
    rw [List.getElem?_set_self (by rw [hl]; omega)]
    exact ⟨by rw [hp], hc⟩
  · rw [List.getElem?_set_ne c] at hab ⊢
    obtain ⟨x, y⟩ := h.at_ a b ha hb hab
    exact ⟨x, hk _ _ y⟩
theorem fit_below {w0 : World} {F : Nat → Prop} {gc gd gl gk ak : Nat} {s : Cs} {l : Lg} {d : Dsk} {N m : Nat} {sn : Int → List Int} {W W' : World} (h : Fit w0 F gc gd gl gk ak s l d N m sn W) (hb : Below W.heap.size W W') : Fit w0 F gc gd gl gk ak s l d N m sn W' := ⟨h.cs.below hb, h.fr, h.sn, h.li, h.op, h.N⟩
theorem pg4 {q j : Nat} (hj : j < 4) : Pg (decide (q = 1)) (j : Int) := by
  refine ⟨by omega, ?_⟩
  split <;> omega
set_option maxHeartbeats 8000000 in
theorem walk (w : World) (fr : Int) (v : Value) (cs : List XO) (hfr : (Lit.int .u8 fr).wf = true) (hcs : XOs w v cs) :
    Calls Try.prog 6 #[.int .u8 fr, v] w fun e w' => e = .returned (.bool true) ∧ Below w.heap.size w w' := by
  have hfb := bound_u8 hfr
  clear hfr
  obtain ⟨oa, cap, rfl, hlen, hel⟩ := hcs
  have HEL : Hid (∀ i, i < cs.length → ∃ (a : Addr) (c : XO), oa = some a ∧ cs[i]? = some c ∧ c.Ok w ∧ ∀ j u, c.cells[j]? = some u → w.cell? ((a.add (i * 229)).add j) = some u) := hel
  have HLEN : Hid (cs.length ≤ 140737488355328) := hlen
  clear hel
  obtain ⟨PP, HPP⟩ : ∃ PP : Ending → World → Prop, Hid (PP = fun e w' => e = .returned (.bool true) ∧ Below w.heap.size w w') := ⟨_, rfl⟩
  rw [← HPP.out]
  obtain ⟨n, hn⟩ : ∃ n : Nat, 4 + fr % 6 = (n : Int) := ⟨(4 + fr % 6).toNat, by omega⟩
  have hov := over_any n (by omega) w
  have HAW : Hid (∀ W, Calls Try.prog 14 #[] W fun e w' => e = .returned (.bool true) ∧ Below W.heap.size W w') := fun W => awake_any W
  have hw0 : IntKind.i64.wrap (fr % 6) = fr % 6 := by rw [IntKind.wrap_i64]; omega
  have hw1 : IntKind.i64.wrap (4 + fr % 6) = (n : Int) := by rw [IntKind.wrap_i64]; omega
  go_enter Try.func6, Try.ntmps6
  go_upto_block 0 with (first
    | (go_at_call 8; refine Calls.mono hov ?_; clear hov; rintro e W1 hq; obtain ⟨gd, gl, gc, gk, ak, F, he, sit⟩ := Sit.start hq; clear hq; obtain rfl := he))
  clear hw0 hw1 hfb hn
  go_cut [8] from 33 to 50 (fun _ wx => ∃ (k : Nat) (F : Nat → Prop) (s : Cs) (l : Lg) (d : Dsk) (la : Bool → Int → List Int), k ≤ 60 ∧ Sit w F gc gd gl gk ak s l d k la wx)
  case first =>
    go_wp2_with fail
    go_loopw [8] (fun i wr => ∃ (k : Nat) (F : Nat → Prop) (s : Cs) (l : Lg) (d : Dsk) (last : Bool → Int → List Int), i = .int .i64 k ∧ k ≤ 60 ∧ Sit w F gc gd gl gk ak s l d k last wr) (fun i _ => 60 - (intOf i).toNat)
    case atStart => exact ⟨0, F, _, _, _, _, rfl, by omega, sit⟩
    case round =>
      clear sit
      obtain ⟨k, F, s, l, d, la, rfl, hk, sit⟩ := hrel
      by_cases hkX : k < cs.length
      · have hkX' : (k : Int) < (cs.length : Int) := by omega
        by_cases hk6 : k < 60
        · have hk8' : (k : Int) < 60 := by omega
          have hk0 : (0 : Int) ≤ (k : Int) := by omega
          have hwk : IntKind.i64.wrap ((k : Int) + 1) = ((k + 1 : Nat) : Int) := by rw [IntKind.wrap_i64]; omega
          obtain ⟨a, c, rfl, hcj, hcok, hcell⟩ := HEL.out k hkX
          have hcell2 : ∀ i u, c.cells[i]? = some u → wr.cell? ((a.add (k * 229)).add i) = some u := fun i u h => cell_keep (hcell i u h) sit.cs.1
          have hdo := sit.do_ (by omega) (hcok.keep sit.cs.1)
          have HCN : Hid (c.cells.length = 229) := by show _ = _; simp [XO.cells, hcok.p]
          have HK : Hid (k < 60) := hk6
          clear hcell hcj hcok sit
          have tl : Hid (1 = 1) := rfl
          go_wp2_with (first
            | (have hh := tl; clear hh tl; refine wpList_load_any rfl 36 (.tmp 48) rfl _ rfl c.cells _ hcell2 Try.underlying36 rfl (by rw [size36, HCN.out]) ?_)
            | (have hh := hdo; clear hh; go_at_call 9; refine Calls.mono hdo ?_; clear hdo; rintro e W4 ⟨he, hst⟩; obtain rfl := he))
          obtain ⟨F', s', l', d', last', sit4, _, _⟩ := hst
          go_roundw
          case rel => exact ⟨k + 1, F', s', l', d', last', by first | rfl | simp, by have := HK.out; omega, sit4⟩
          case measure => have := HK.out; simp only [intOf]; omega
        · have hk8' : ¬ (k : Int) < 60 := by omega
          go_wp2_with fail
          go_meet
          case rel => exact ⟨k, F, s, l, d, la, hk, sit⟩
      · have hkX' : ¬ (k : Int) < (cs.length : Int) := by omega
        go_wp2_with fail
        go_meet
        case rel => exact ⟨k, F, s, l, d, la, hk, sit⟩
  case rest =>
    clear sit HEL
    obtain ⟨k, F, s, l, d, la, hk, sit⟩ := hcut
    have hpl := sit.plan (by omega)
    have hwe := sit.st.fz.plan_well
    clear sit
    have hz64 := zero64
    have hz66 := zero66
    obtain ⟨Z64, HZ64⟩ : ∃ Z64, Hid (bs (zs 1792) = Z64) := ⟨_, rfl⟩
    rw [HZ64.out] at hz64
    go_upto_region 12 with (have hh := hpl; clear hh; go_at_call 24; refine Calls.mono hpl ?_; clear hpl; rintro e W2 ⟨he, F1, sit, tr⟩; obtain rfl := he)
    have lta := fun q (h : F1 q) => sit.cs.2.1.lt q h
    have e3 : (W2.alloc (.cells Z64 64)).heap.size = W2.heap.size + 1 := Array.size_push ..
    have b3 : Below W2.heap.size W2 (W2.alloc (.cells Z64 64)) := (Below.refl _ _).alloc (Nat.le_refl _) _
    have b4 : Below (W2.alloc (.cells Z64 64)).heap.size (W2.alloc (.cells Z64 64)) ((W2.alloc (.cells Z64 64)).alloc (.cells (nB no8) 66)) := (Below.refl _ _).alloc (Nat.le_refl _) _
    have tb3 : TB F1 (W2.alloc (.cells Z64 64)) W2.heap.size 64 8 (List.replicate 8 (zs 224)) := ⟨⟨by rw [zs_flat8, HZ64.out]; exact Row.new _ _ _, fun q => by have := lta _ q; omega⟩, List.length_replicate, fun p hp => by rw [List.eq_of_mem_replicate hp]; exact zs_length _⟩
    have tb := tb3.below b4
    have kb : CLoc F1 ((W2.alloc (.cells Z64 64)).alloc (.cells (nB no8) 66)) (W2.alloc (.cells Z64 64)).heap.size (nB no8) 66 := ⟨Row.new _ _ _, fun q => by have := lta _ q; omega⟩
    have sitA := (sit.below b3).below b4
    have hA9 : w.heap.size ≤ W2.heap.size := sit.cs.1.size
    have hA10 : w.heap.size ≤ (W2.alloc (.cells Z64 64)).heap.size := by omega
    have hna : W2.heap.size ≠ (W2.alloc (.cells Z64 64)).heap.size := by omega
    rw [e3] at kb hA10 hna
    clear hz64 hz66 tr sit lta e3 b3 b4 tb3
    generalize (W2.alloc (.cells Z64 64)).alloc (.cells (nB no8) 66) = W4 at tb kb sitA ⊢
    generalize W2.heap.size + 1 = A10 at kb hA10 hna ⊢
    generalize W2.heap.size = A9 at tb hA9 hna ⊢
    have hkp := Kp.start s la (List.replicate 8 (zs 224))
    generalize List.replicate 8 (zs 224) = GP at tb hkp
    generalize no8 = KB at kb hkp
    generalize d.plan [] 0 = d at hwe sitA
    go_loopw [11] (fun i wr => ∃ (q kc : Nat) (F : Nat → Prop) (s : Cs) (l : Lg) (d : Dsk) (GP : List (List Int)) (KB : List Bool), q ≤ 2 ∧ i = .int .i64 q ∧ Sit w F gc gd gl gk ak s l d kc la wr ∧ WellE d ∧ TB F wr A9 64 8 GP ∧ CLoc F wr A10 (nB KB) 66 ∧ Kp s la GP KB ∧ kc ≤ 61 + 2 * (q * 4)) (fun i _ => 2 - (intOf i).toNat)
    case atStart => exact ⟨0, k + 1, F1, s, l, d, GP, KB, by omega, rfl, sitA, hwe, tb, kb, hkp, by omega⟩
    case round =>
      clear sitA hwe tb kb hkp
      obtain ⟨q, kc, F, s, l, d, GP, KB, hq, rfl, sit, hwe, tb, kb, hkp, hkc⟩ := hrel
      by_cases hq2 : q < 2
      · have hq2' : (q : Int) < 2 := by omega
        have hq0 : (0 : Int) ≤ (q : Int) := by omega
        have hwq : IntKind.i64.wrap ((q : Int) + 1) = ((q + 1 : Nat) : Int) := by rw [IntKind.wrap_i64]; omega
        go_upto_region 15 with fail
        go_loopw [12] (fun i wz => ∃ (j kc : Nat) (F : Nat → Prop) (s : Cs) (l : Lg) (d : Dsk) (GP : List (List Int)) (KB : List Bool), j ≤ 4 ∧ i = .int .i64 j ∧ Sit w F gc gd gl gk ak s l d kc la wz ∧ WellE d ∧ TB F wz A9 64 8 GP ∧ CLoc F wz A10 (nB KB) 66 ∧ Kp s la GP KB ∧ kc ≤ 61 + 2 * (q * 4 + j)) (fun i _ => 4 - (intOf i).toNat)
        case atStart => exact ⟨0, kc, F, s, l, d, GP, KB, by omega, rfl, sit, hwe, tb, kb, hkp, hkc⟩
        case round =>
          clear sit hwe tb kb hkp hkc
          rename World => wz
          obtain ⟨j, kc, F, s, l, d, GP, KB, hj, rfl, sit, hwe, tb, kb, hkp, hkc⟩ := hrel
          by_cases hj4 : j < 4
          · have hj8' : (j : Int) < 4 := by omega
            have hj0 : (0 : Int) ≤ (j : Int) := by omega
            have hwj : IntKind.i64.wrap ((j : Int) + 1) = ((j + 1 : Nat) : Int) := by rw [IntKind.wrap_i64]; omega
            have hwc : IntKind.u16.wrap (j : Int) = (j : Int) := by rw [IntKind.wrap_u16]; omega
            have hq1 : ((q : Int) == 1) = decide (q = 1) := by
              by_cases e : q = 1
              · subst e; rfl
              · rw [decide_eq_false e]; simp; omega
            have hpg := pg4 (q := q) hj4
            have bu := built31b (decide (q = 1)) (j : Int)
            have hz31 := zero31p
            have rI : Row (wz.alloc (.cells #[.bool false, .int .u16 0] 31)) wz.heap.size #[.bool false, .int .u16 0] 31 := Row.new _ _ _
            have ts : Hid (1 = 1) := rfl
            go_upto_region 18 with (have hh := ts; clear hh ts; refine store_cells rfl 31 (.tmp 13) (.tmp 65) rfl wz.heap.size #[.bool (decide (q = 1)), .int .u16 (j : Int)] rfl rfl 31 _ rI 2 size31 rfl rfl (by simp [Value.oneCell']) ?_)
            have bX : Below wz.heap.size wz ((wz.alloc (.cells #[.bool false, .int .u16 0] 31)).setRow wz.heap.size #[.bool (decide (q = 1)), .int .u16 (j : Int)]) := below_setRow ((Below.refl _ _).alloc (Nat.le_refl _) _) (Nat.le_refl _) _
            have rX := rI.set #[.bool (decide (q = 1)), .int .u16 (j : Int)]
            have lX : CLoc F ((wz.alloc (.cells #[.bool false, .int .u16 0] 31)).setRow wz.heap.size #[.bool (decide (q = 1)), .int .u16 (j : Int)]) wz.heap.size #[.bool (decide (q = 1)), .int .u16 (j : Int)] 31 := ⟨rX, fun q => by have := sit.cs.2.1.lt _ q; omega⟩
            have sitX := sit.below bX
            have tbX := tb.below bX
            have kbX : CLoc F ((wz.alloc (.cells #[.bool false, .int .u16 0] 31)).setRow wz.heap.size #[.bool (decide (q = 1)), .int .u16 (j : Int)]) A10 (nB KB) 66 := CLoc.below kb bX
            have HNA : Hid (A9 ≠ A10) := hna
            clear rI hz31 bu rX bX sit tb kb
            generalize (wz.alloc (.cells #[.bool false, .int .u16 0] 31)).setRow wz.heap.size #[.bool (decide (q = 1)), .int .u16 (j : Int)] = WX at lX sitX tbX kbX ⊢
            generalize wz.heap.size = A13 at lX ⊢
            have HWE : Hid (WellE d) := hwe
            have HKP : Hid (Kp s la GP KB) := hkp
            have HKC : Hid (kc ≤ 61 + 2 * (q * 4 + j)) := hkc
            have hhs := sitX.has (decide (q = 1)) (j := (j : Int)) (by omega)
            have tl1 : Hid (1 = 1) := rfl
            have tl2 : Hid (1 = 1) := rfl
            have tl3 : Hid (1 = 1) := rfl
            cases hp : posF s.fs (decide (q = 1)) (j : Int) with
            | none =>
              rw [hp] at hhs
              go_wp2_with (first
                | (have hh := tl1; clear hh tl1; refine load_cells rfl 31 (.tmp 13) rfl A13 rfl 31 #[.bool (decide (q = 1)), .int .u16 (j : Int)] lX.1 2 Try.underlying31 rfl size31 rfl ?_)
                | (have hh := hhs; clear hh; go_at_call 23; refine Calls.mono hhs ?_; clear hhs; rintro e W5 ⟨he, hb5⟩; obtain rfl := he))
              go_roundw
              case rel => exact ⟨j + 1, kc, F, s, l, d, GP, KB, by omega, by first | rfl | simp, sitX.below hb5, HWE.out, tbX.below hb5, CLoc.below kbX hb5, HKP.out, by have := HKC.out; omega⟩
              case measure => simp only [intOf]; omega
            | some i =>
              rw [hp] at hhs
              have HPQ : Hid (posF s.fs (decide (q = 1)) (j : Int) = some i) := hp
              have hz34 := zero34
              have HZP : Hid ((bs (zs 224)).size = 224) := by show _ = _; rw [bs_size]; exact zs_length _
              generalize bs (zs 224) = ZP at hz34 HZP
              have ts2 : Hid (1 = 1) := rfl
              have HSX : Hid (∀ W, Below WX.heap.size WX W → Calls Try.prog 16 #[.pointer (some ⟨gc, 0, none⟩), .agg #[.bool (decide (q = 1)), .int .u16 (j : Int)]] W fun e w' => ∃ (F' : Nat → Prop) (s' : Cs), e = .returned (.tuple #[.agg (bs (la (decide (q = 1)) j)), .int .i64 0]) ∧ (la (decide (q = 1)) j).length = 224 ∧ Sit w F' gc gd gl gk ak s' l d (kc + 1) la w' ∧ Tr F W F' w' ∧ s'.fs = s.fs) := fun W hb => by
                have sitW := sitX.below hb
                obtain ⟨h1, h2⟩ := sitW.ops (by have := HKC.out; omega)
                refine (fetch_any sitW.cs.2.1 (decide (q = 1)) (j : Int) (wfu_mk (by omega)) sitW.st.pi.inv (by omega) h1 (flush_ops sitW.st.pi.inv d) (by have := HKC.out; omega) (by have := HKC.out; omega)).mono ?_
                rintro e w' ⟨p, E, s', l', d', hf, he, hst⟩
                obtain ⟨st', hE⟩ := sitW.st.fetch sitW.cs.2.1.ok (by have := HKC.out; omega) (by omega) hf
                obtain ⟨rfl, e2, rfl, rfl⟩ := fetch_res hf ((isC_pg sitW.st.pages sitW.st.undo (by omega)).2 hpg) HPQ.out
                obtain ⟨F', sit2, tr⟩ := sitW.step (by have := HKC.out; omega) hst (by omega) (by omega) st'
                have hlen := hf.len sitW.cs.2.1.ok sit2.cs.2.1.ok
                obtain ⟨rfl, _⟩ := hE rfl
                exact ⟨F', s', he, hlen, sit2, tr, e2⟩
              go_upto_region 20 with (first
                | (have hh := tl1; clear hh tl1; refine load_cells rfl 31 (.tmp 13) rfl A13 rfl 31 #[.bool (decide (q = 1)), .int .u16 (j : Int)] lX.1 2 Try.underlying31 rfl size31 rfl ?_)
                | (have hh := hhs; clear hh; go_at_call 23; refine Calls.mono hhs ?_; clear hhs; rintro e W5 ⟨he, hb5⟩; obtain rfl := he; have lX5 := CLoc.below lX hb5; have tb5 := tbX.below hb5; have kb5 := CLoc.below kbX hb5; have hfe := HSX.out W5 hb5)
                | (have hh := tl2; clear hh tl2; refine load_cells rfl 31 (.tmp 13) rfl A13 rfl 31 #[.bool (decide (q = 1)), .int .u16 (j : Int)] lX5.1 2 Try.underlying31 rfl size31 rfl ?_)
                | (have hh := hfe; clear hh; go_at_call 16; refine Calls.mono hfe ?_; clear hfe; rintro e W6 ⟨F6, s6, he, hpl, sit6, tr6, hfs6⟩; obtain rfl := he; have l14 : CLoc F6 (W6.alloc (.cells ZP 34)) W6.heap.size ZP 34 := ⟨Row.new _ _ _, fun q => by have := sit6.cs.2.1.lt _ q; omega⟩; have HPS : Hid ((bs (la (decide (q = 1)) j)).size = 224) := (by show _ = _; rw [bs_size]; exact hpl))
                | (have hh := ts2; clear hh ts2; refine store_cells rfl 34 (.tmp 14) (.tmp 73) rfl W6.heap.size (bs (la (decide (q = 1)) j)) rfl rfl 34 _ l14.1 224 size34 HZP.out HPS.out (bs_one _) ?_))
              have ba : Below W6.heap.size W6 ((W6.alloc (.cells ZP 34)).setRow W6.heap.size (bs (la (decide (q = 1)) j))) := below_setRow ((Below.refl _ _).alloc (Nat.le_refl _) _) (Nat.le_refl _) _
              have lX7 := CLoc.below (CLoc.tr lX5 tr6) ba
              have tb7 := (tb5.tr tr6).below ba
              have kb7 := CLoc.below (CLoc.tr kb5 tr6) ba
              have sit7 := sit6.below ba
              have l147 := l14.set (bs (la (decide (q = 1)) j))
              have HPL : Hid ((la (decide (q = 1)) j).length = 224) := hpl
              clear lX5 tb5 kb5 sit6 l14 ba tr6 hb5 hz34 HZP lX tbX kbX
              generalize (W6.alloc (.cells ZP 34)).setRow W6.heap.size (bs (la (decide (q = 1)) j)) = W7 at lX7 tb7 kb7 sit7 l147 ⊢
              generalize W6.heap.size = A14 at l147 ⊢
              have hp6 : posF s6.fs (decide (q = 1)) (j : Int) = some i := by rw [hfs6]; exact HPQ.out
              have hk6 : ∀ u i, cleanC s u i = true → cleanC s6 u i = true := fun u i h => by unfold cleanC at h ⊢; rw [hfs6]; exact h
              have hwr := sit7.write (by have := HKC.out; omega) (decide (q = 1)) (j := (j : Int)) (by omega)
              obtain ⟨hw0, hwe2⟩ := write_well sit7.st sit7.cs.2.1.ok HWE.out hp6
              have hcl := (sit7.st.write sit7.cs.2.1.ok (by have := HKC.out; omega) (decide (q = 1)) (j : Int)).2 hw0
              have hkc2 : ∀ u i, cleanC s u i = true → cleanC (writeR s6 l d (decide (q = 1)) (j : Int)).2.1 u i = true := fun u i h => (write_clean (decide (q = 1)) (j : Int) u i).2 (hk6 u i h)
              rw [hw0] at hwr
              clear hw0
              generalize writeR s6 l d (decide (q = 1)) (j : Int) = R at hwr hwe2 hcl hkc2
              have HCL : Hid (∀ (F : Nat → Prop) W, Sit w F gc gd gl gk ak R.2.1 R.2.2.1 R.2.2.2 (kc + 1 + 1) la W → Calls Try.prog 26 #[.pointer (some ⟨gc, 0, none⟩), .agg #[.bool (decide (q = 1)), .int .u16 (j : Int)]] W fun e w' => e = .returned (.bool true) ∧ Below W.heap.size W w') := fun F W h => by
                have := h.clean (decide (q = 1)) (j := (j : Int)) (by omega)
                rw [hcl] at this; exact this
              have HHW : Hid _ := hwr
              clear hwr
              have hwr := HHW.out
              have tl4 : Hid (1 = 1) := rfl
              go_upto_region 22 with (first
                | (have hh := tl4; clear hh tl4; refine load_cells rfl 31 (.tmp 13) rfl A13 rfl 31 #[.bool (decide (q = 1)), .int .u16 (j : Int)] lX7.1 2 Try.underlying31 rfl size31 rfl ?_)
                | (have hh := hwr; clear hh; go_at_call 25; refine Calls.mono hwr ?_; clear hwr; rintro e W8 ⟨he, F8, sit8, tr8⟩; obtain rfl := he; have lX8 := CLoc.tr lX7 tr8; have hcc := HCL.out F8 W8 sit8)
                | (have hh := tl3; clear hh tl3; refine load_cells_g (by rfl) 31 (.tmp 13) rfl A13 rfl 31 #[.bool (decide (q = 1)), .int .u16 (j : Int)] lX8.1 2 Try.underlying31 rfl size31 rfl ?_)
                | (have hh := hcc; clear hh; go_at_call 26; refine Calls.mono hcc ?_; clear hcc; rintro e W9 ⟨he, hb9⟩; obtain rfl := he))
              have tb9 := (tb7.tr tr8).below hb9
              have kb9 := CLoc.below (CLoc.tr kb7 tr8) hb9
              have sit9 := sit8.below hb9
              have l149 := CLoc.below (CLoc.tr l147 tr8) hb9
              clear lX7 lX8 tb7 kb7 sit7 sit8 l147 tr8 hb9
              refine wp_region_held_drew (S := fun W => Row W A14 (bs (la (decide (q = 1)) j)) 34) (by kernel_rfl) l149.1 fun hS => ?_
              have tbA := tb9.below (below_drew W9)
              have kbA := CLoc.below kb9 (below_drew W9)
              have sitB := sit9.below (below_drew W9)
              have l14A := CLoc.below l149 (below_drew W9)
              clear tb9 kb9 sit9 l149
              generalize W9.drew = WA at hS tbA kbA sitB l14A ⊢
              refine tkI (i := 0) (v := .int .i64 q) rfl (Or.inl ⟨by rfl, fun w _ => by rfl⟩) hS ?_
              try simp only [Act.put, nz]
              refine tkI (i := 1) (v := .int .i64 j) rfl (Or.inl ⟨by rfl, fun w _ => by rfl⟩) hS ?_
              try simp only [Act.put, nz]
              refine tkI (i := 2) (v := .agg (bs (la (decide (q = 1)) j))) rfl (yields_cells (by rfl) 34 (.tmp 14) rfl A14 rfl 34 (bs (la (decide (q = 1)) j)) (fun w h => h) 224 Try.underlying34 rfl size34 HPS.out) hS ?_
              try simp only [Act.put, nz]
              refine tkI (i := 3) (v := .pointer (some ⟨A9, q * 896, none⟩)) rfl (Or.inl ⟨by rfl, fun w _ => by go_simp⟩) hS ?_
              try simp only [Act.put, nz]
              refine tkI (i := 4) (v := .pointer (some ⟨A9, q * 896 + j * 224, none⟩)) rfl (Or.inl ⟨by rfl, fun w _ => by go_simp⟩) hS ?_
              try simp only [Act.put, nz]
              refine wpAnyH_ready (rs := [5]) (by kernel_rfl) (by simp) ?_
              refine (AllReadyH.cons rfl (fun K hK => ?_) AllReadyH.nil)
              have hoff : (q * 4 + j) * 224 = q * 896 + j * 224 := by omega
              have hth := tbA.there (m := q * 4 + j) (by omega)
              have tbs := tbA.set (m := q * 4 + j) (by omega) (p := la (decide (q = 1)) j) HPL.out
              have sib := sitB.setCells hA9 tbA.loc.2 ((q * 4 + j) * 224) (bs (la (decide (q = 1)) j)).toList
              have O9 : Off (· = A9) WA (WA.setCells A9 ((q * 4 + j) * 224) (bs (la (decide (q = 1)) j)).toList) := Off.of_setCells A9 _ _ _
              have kbs : CLoc F8 (WA.setCells A9 ((q * 4 + j) * 224) (bs (la (decide (q = 1)) j)).toList) A10 (nB KB) 66 := ⟨kbA.1.off O9 (fun q => HNA.out q.symm), kbA.2⟩
              have l14s : Row (WA.setCells A9 ((q * 4 + j) * 224) (bs (la (decide (q = 1)) j)).toList) A14 (bs (la (decide (q = 1)) j)) 34 := l14A.1.off O9 (fun q => ne_rows l14A.1 tbA.loc.1 (by decide) q)
              have hkp2 := HKP.out.put tbA.len hq2 hj4 (s' := R.2.1) (p := la (decide (q = 1)) j) rfl hcl hkc2
              rw [hoff] at hth tbs sib kbs l14s
              refine Cl.step_of rfl (wp_store_mid 34 (.tmp 89) (.tmp 87) rfl A9 (q * 896 + j * 224) (bs (la (decide (q = 1)) j)) rfl rfl (by rw [HPS.out]; exact hth) (by rw [HPS.out]; exact size34) (bs_one _) ?_)
              refine hK.out _ _ l14s fun hS => ?_
              try simp only [Act.put, nz]
              refine wpAnyH_done (by kernel_rfl) ?_ _
              clear hth sitB tbA kbA l14A l14s O9 hS
              generalize WA.setCells A9 (q * 896 + j * 224) (bs (la (decide (q = 1)) j)).toList = WB at tbs sib kbs ⊢
              obtain ⟨b0, hb0⟩ : ∃ b0, KB[q * 4 + j]? = some b0 := ⟨_, List.getElem?_eq_getElem (by rw [HKP.out.len]; omega)⟩
              have c10 := row_at kbs.1 (q * 4 + j) _ (nB_at hb0)
              have z10 := row_frozen kbs.1 (q * 4 + j)
              have O10 : Off (· = A10) WB (WB.setCell ⟨A10, q * 4 + j, none⟩ (.bool true)) := Off.of_setCell (F := (· = A10)) _ _ _ rfl
              have sic : Sit w F8 gc gd gl gk ak R.2.1 R.2.2.1 R.2.2.2 (kc + 1 + 1) la (WB.setCell ⟨A10, q * 4 + j, none⟩ (.bool true)) := sib.setCells hA10 kbs.2 (q * 4 + j) [.bool true]
              have kbc : CLoc F8 (WB.setCell ⟨A10, q * 4 + j, none⟩ (.bool true)) A10 (nB (KB.set (q * 4 + j) true)) 66 := ⟨by rw [← nB_set]; exact row_set kbs.1 _ _, kbs.2⟩
              have tbc : TB F8 (WB.setCell ⟨A10, q * 4 + j, none⟩ (.bool true)) A9 64 8 (GP.set (q * 4 + j) (la (decide (q = 1)) j)) := ⟨⟨tbs.loc.1.off O10 HNA.out, tbs.loc.2⟩, tbs.len, tbs.ok⟩
              go_wp2
              go_roundw
              case rel => exact ⟨j + 1, kc + 1 + 1, F8, R.2.1, R.2.2.1, R.2.2.2, _, _, by omega, by first | rfl | simp, sic, hwe2, tbc, kbc, hkp2, by have := HKC.out; omega⟩
              case measure => simp only [intOf]; omega
          · have hj8' : ¬ (j : Int) < 4 := by omega
            obtain rfl : j = 4 := by omega
            go_wp2
            go_roundw
            case rel => exact ⟨q + 1, kc, F, s, l, d, GP, KB, by omega, by first | rfl | simp, sit, hwe, tb, kb, hkp, by omega⟩
            case measure => simp only [intOf]; omega
      · have hq2' : ¬ (q : Int) < 2 := by omega
        obtain rfl : q = 2 := by omega
        have HSN : Hid (∀ q j : Nat, q < 2 → j < 4 → KB[q * 4 + j]? = some true → GP[q * 4 + j]? = some (openF (decide (q = 1)) (j : Int) ((d.crash []).seen (placeC 4 (decide (q = 1)) (j : Int)))).p) := fun q j hq hj h => by
          obtain ⟨x, y⟩ := hkp.at_ q j hq hj h
          rw [x, sit.st.lasts sit.cs.2.1.ok (pg4 hj) y]
        have hcr := sit.cs.2.1.crash
        have hsz : (d.crash []).n = 60 := sit.st.fz.size
        have hli : l.Inv ∧ l.fin ≤ 9223372036854775807 := ⟨sit.st.pi.inv, (sit.ops (by omega)).2⟩
        have hfr : Fr2 (newC 4 5 16) (d.crash []) 0 := ⟨rfl, rfl, rfl, Nat.le_refl _, fun f hf => (nomatch hf), crash_well sit.st.fz.size []⟩
        have hop : (d.crash []).ops ≤ 1010 * ((0 : Nat) : Int) := Int.le_refl _
        have HKL : Hid (∃ b, KB.length = b ∧ b = 8) := ⟨_, rfl, hkp.len⟩
        have hcs := sit.cs
        go_upto_region 25 with (have hh := hcr; clear hh; go_at_call 27; refine Calls.mono hcr ?_; clear hcr; rintro e W5 ⟨he, hst⟩; obtain rfl := he)
        obtain ⟨F5, cs5, tr5⟩ := hcs.step hst
        have hnw := cs5.new hsz
        go_upto_region 29 with (have hh := hnw; clear hh; go_at_call 28; refine Calls.mono hnw ?_; clear hnw; rintro e W6 ⟨gc2, gk2, ak2, F6, he, cs6, tr6⟩; obtain rfl := he)
        have tb6 := (tb.tr tr5).tr tr6
        have kb6 := CLoc.tr (CLoc.tr kb tr5) tr6
        generalize HSE : (d.crash []).seen = sn at HSN
        have fit6 : Fit w F6 gc2 gd gl gk2 ak2 (newC 4 5 16) l (d.crash []) (4004 * kc) 0 sn W6 := ⟨cs6, hfr, fun b => by rw [HSE], hli, hop, by omega⟩
        clear hst tr5 tr6 cs5 cs6 hfr hop hli hcs sit hwe tb kb hkp HSE
        generalize d.crash [] = d at hsz fit6
        generalize newC 4 5 16 = s at fit6
        generalize 4004 * kc = NN at fit6
        go_loopw [17] (fun i wr => ∃ (q : Nat) (F : Nat → Prop) (s : Cs) (d : Dsk), q ≤ 2 ∧ i = .int .i64 q ∧ Fit w F gc2 gd gl gk2 ak2 s l d NN (q * 4) sn wr ∧ TB F wr A9 64 8 GP ∧ CLoc F wr A10 (nB KB) 66) (fun i _ => 2 - (intOf i).toNat)
        case atStart => exact ⟨0, F6, s, d, by omega, rfl, fit6, tb6, kb6⟩
        case round =>
          clear fit6 tb6 kb6
          obtain ⟨q, F, s, d, hq, rfl, fit, tb, kb⟩ := hrel
          by_cases hq2 : q < 2
          · have hq2' : (q : Int) < 2 := by omega
            have hq0 : (0 : Int) ≤ (q : Int) := by omega
            have hwq : IntKind.i64.wrap ((q : Int) + 1) = ((q + 1 : Nat) : Int) := by rw [IntKind.wrap_i64]; omega
            go_upto_region 32 with fail
            go_loopw [18] (fun i wz => ∃ (j : Nat) (F : Nat → Prop) (s : Cs) (d : Dsk), j ≤ 4 ∧ i = .int .i64 j ∧ Fit w F gc2 gd gl gk2 ak2 s l d NN (q * 4 + j) sn wz ∧ TB F wz A9 64 8 GP ∧ CLoc F wz A10 (nB KB) 66) (fun i _ => 4 - (intOf i).toNat)
            case atStart => exact ⟨0, F, s, d, by omega, rfl, fit, tb, kb⟩
            case round =>
              clear fit tb kb
              rename World => wz
              obtain ⟨j, F, s, d, hj, rfl, fit, tb, kb⟩ := hrel
              by_cases hj4 : j < 4
              · have hj8' : (j : Int) < 4 := by omega
                have hj0 : (0 : Int) ≤ (j : Int) := by omega
                have hwj : IntKind.i64.wrap ((j : Int) + 1) = ((j + 1 : Nat) : Int) := by rw [IntKind.wrap_i64]; omega
                have hwc : IntKind.u16.wrap (j : Int) = (j : Int) := by rw [IntKind.wrap_u16]; omega
                have hq1 : ((q : Int) == 1) = decide (q = 1) := by
                  by_cases e : q = 1
                  · subst e; rfl
                  · rw [decide_eq_false e]; simp; omega
                have hpg := pg4 (q := q) hj4
                have bu := built31b (decide (q = 1)) (j : Int)
                have hz31 := zero31p
                have rI : Row (wz.alloc (.cells #[.bool false, .int .u16 0] 31)) wz.heap.size #[.bool false, .int .u16 0] 31 := Row.new _ _ _
                have ts : Hid (1 = 1) := rfl
                go_upto_region 35 with (have hh := ts; clear hh ts; refine store_cells rfl 31 (.tmp 19) (.tmp 113) rfl wz.heap.size #[.bool (decide (q = 1)), .int .u16 (j : Int)] rfl rfl 31 _ rI 2 size31 rfl rfl (by simp [Value.oneCell']) ?_)
                have bX : Below wz.heap.size wz ((wz.alloc (.cells #[.bool false, .int .u16 0] 31)).setRow wz.heap.size #[.bool (decide (q = 1)), .int .u16 (j : Int)]) := below_setRow ((Below.refl _ _).alloc (Nat.le_refl _) _) (Nat.le_refl _) _
                have rX := rI.set #[.bool (decide (q = 1)), .int .u16 (j : Int)]
                have fitX := fit_below fit bX
                have tbX := tb.below bX
                have kbX := CLoc.below kb bX
                clear rI hz31 bu bX fit tb kb
                generalize (wz.alloc (.cells #[.bool false, .int .u16 0] 31)).setRow wz.heap.size #[.bool (decide (q = 1)), .int .u16 (j : Int)] = WX at rX fitX tbX kbX ⊢
                generalize wz.heap.size = A13 at rX ⊢
                have hfe := fitX.fetch (by omega) hpg
                obtain ⟨pp, HPD⟩ : ∃ pp, Hid ((openF (decide (q = 1)) (j : Int) (sn (placeC 4 (decide (q = 1)) (j : Int)))).p = pp) := ⟨_, rfl⟩
                rw [HPD.out] at hfe
                have hz34 := zero34
                have HZP : Hid ((bs (zs 224)).size = 224) := by show _ = _; rw [bs_size]; exact zs_length _
                generalize bs (zs 224) = ZP at hz34 HZP
                have tl1 : Hid (1 = 1) := rfl
                have ts2 : Hid (1 = 1) := rfl
                go_upto_region 36 with (first
                  | (have hh := tl1; clear hh tl1; refine load_cells rfl 31 (.tmp 19) rfl A13 rfl 31 #[.bool (decide (q = 1)), .int .u16 (j : Int)] rX 2 Try.underlying31 rfl size31 rfl ?_)
                  | (have hh := hfe; clear hh; go_at_call 16; refine Calls.mono hfe ?_; clear hfe; rintro e W6 ⟨he, hpl, F6, s6, d6, fit6, tr6⟩; obtain rfl := he; have HPS : Hid ((bs pp).size = 224) := (by show _ = _; rw [bs_size]; exact hpl); have l20 : CLoc F6 (W6.alloc (.cells ZP 34)) W6.heap.size ZP 34 := ⟨Row.new _ _ _, fun q => by have := fit6.cs.2.1.lt _ q; omega⟩)
                  | (have hh := ts2; clear hh ts2; refine store_cells rfl 34 (.tmp 20) (.tmp 118) rfl W6.heap.size (bs pp) rfl rfl 34 _ l20.1 224 size34 HZP.out HPS.out (bs_one _) ?_))
                have ba : Below W6.heap.size W6 ((W6.alloc (.cells ZP 34)).setRow W6.heap.size (bs pp)) := below_setRow ((Below.refl _ _).alloc (Nat.le_refl _) _) (Nat.le_refl _) _
                have tb7 := (tbX.tr tr6).below ba
                have kb7 := CLoc.below (CLoc.tr kbX tr6) ba
                have fit7 := fit_below fit6 ba
                have l207 := l20.set (bs pp)
                have HPL : Hid (pp.length = 224) := hpl
                have HEQ : Hid (∀ w, (Op.equalIn 10000 34 (.agg (bs pp)) (.agg (bs pp))).run Try.prog w = .ok true w) := fun w => by
                  have := equal34 pp pp hpl hpl w
                  rw [this, decide_eq_true rfl]
                clear rX fitX tbX kbX fit6 tr6 l20 ba hz34 HZP
                generalize (W6.alloc (.cells ZP 34)).setRow W6.heap.size (bs pp) = W7 at tb7 kb7 fit7 l207 ⊢
                generalize W6.heap.size = A20 at l207 ⊢
                obtain ⟨b0, hb0⟩ : ∃ b0, KB[q * 4 + j]? = some b0 := ⟨_, List.getElem?_eq_getElem (by obtain ⟨b, e1, e2⟩ := HKL.out; omega)⟩
                have HKX : Hid ((nB KB)[q * 4 + j]? = some (.bool b0)) := nB_at hb0
                cases b0 with
                | true =>
                  have HPE : Hid (pp = (openF (decide (q = 1)) (j : Int) (sn (placeC 4 (decide (q = 1)) (j : Int)))).p) := HPD.out.symm
                  have HSM : Hid (GP[q * 4 + j]? = some pp) := by rw [HPE.out]; exact HSN.out q j hq2 hj4 hb0
                  have htm : GP[q * 4 + j]? = some pp := HSM.out
                  have HTC : Hid (∀ w', Row w' A9 (bs GP.flatten) 64 → ∀ x v, (pp.map (Value.int .u8))[x]? = some v → w'.cell? ((⟨A9, q * 896 + j * 224, none⟩ : Addr).add x) = some v) := fun w' hr => by
                    have := tb7.cells htm hr
                    rw [show (q * 4 + j) * 224 = q * 896 + j * 224 by omega] at this; exact this
                  refine wp_region_held_drew (S := fun W => Row W A20 (bs pp) 34 ∧ Row W A9 (bs GP.flatten) 64 ∧ Row W A10 (nB KB) 66) (by kernel_rfl) ⟨l207.1, tb7.loc.1, kb7.1⟩ fun hS => ?_
                  have fit8 := fit_below fit7 (below_drew W7)
                  have tb8 := tb7.below (below_drew W7)
                  have kb8 := CLoc.below kb7 (below_drew W7)
                  clear tb7 kb7 fit7 l207
                  generalize W7.drew = W8 at hS fit8 tb8 kb8 ⊢
                  refine tkI (i := 0) (v := .int .i64 0) rfl (Or.inl ⟨by rfl, fun w _ => by rfl⟩) hS ?_
                  try simp only [Act.put, nz]
                  refine tkI (i := 1) (v := .bool false) rfl (Or.inl ⟨by rfl, fun w _ => by go_simp⟩) hS ?_
                  try simp only [Act.put, nz]
                  refine tkI (i := 2) (v := .bool false) rfl (Or.inl ⟨by rfl, fun w _ => by go_simp⟩) hS ?_
                  try simp only [Act.put, nz]
                  refine tkI (i := 3) (v := .int .i64 q) rfl (Or.inl ⟨by rfl, fun w _ => by go_simp⟩) hS ?_
                  try simp only [Act.put, nz]
                  refine tkI (i := 4) (v := .int .i64 j) rfl (Or.inl ⟨by rfl, fun w _ => by go_simp⟩) hS ?_
                  try simp only [Act.put, nz]
                  refine tkI (i := 5) (v := .pointer (some ⟨A10, q * 4, none⟩)) rfl (Or.inl ⟨by rfl, fun w _ => by go_simp⟩) hS ?_
                  try simp only [Act.put, nz]
                  refine tkI (i := 6) (v := .pointer (some ⟨A10, q * 4 + j, none⟩)) rfl (Or.inl ⟨by rfl, fun w _ => by go_simp⟩) hS ?_
                  try simp only [Act.put, nz]
                  refine tkI (i := 7) (v := .bool true) rfl (Or.inl ⟨by rfl, fun w h => by have c := row_at h.2.2 (q * 4 + j) _ HKX.out; go_simp⟩) hS ?_
                  try simp only [Act.put, nz]
                  refine tkI (i := 8) (v := .bool true) rfl (Or.inl ⟨by rfl, fun w _ => by go_simp⟩) hS ?_
                  try simp only [Act.put, nz]
                  refine tkI (i := 9) (v := .agg (bs pp)) rfl (yields_cells (by rfl) 34 (.tmp 20) rfl A20 rfl 34 (bs pp) (fun w h => h.1) 224 Try.underlying34 rfl size34 HPS.out) hS ?_
                  try simp only [Act.put, nz]
                  refine tkI (i := 10) (v := .int .i64 q) rfl (Or.inl ⟨by rfl, fun w _ => by go_simp⟩) hS ?_
                  try simp only [Act.put, nz]
                  refine tkI (i := 11) (v := .int .i64 j) rfl (Or.inl ⟨by rfl, fun w _ => by go_simp⟩) hS ?_
                  try simp only [Act.put, nz]
                  refine tkI (i := 12) (v := .pointer (some ⟨A9, q * 896, none⟩)) rfl (Or.inl ⟨by rfl, fun w _ => by go_simp⟩) hS ?_
                  try simp only [Act.put, nz]
                  refine tkI (i := 13) (v := .pointer (some ⟨A9, q * 896 + j * 224, none⟩)) rfl (Or.inl ⟨by rfl, fun w _ => by go_simp⟩) hS ?_
                  try simp only [Act.put, nz]
                  refine tkI (i := 14) (v := .agg (bs pp)) rfl (yields_any (by rfl) 34 (.tmp 133) rfl ⟨A9, q * 896 + j * 224, none⟩ rfl (pp.map (Value.int .u8)) _ (fun w h => HTC.out w h.2.1) Try.underlying34 rfl (by rw [size34, List.length_map, HPL.out])) hS ?_
                  try simp only [Act.put, nz]
                  refine tkI (i := 15) (v := .bool false) rfl (yields_neq (by rfl) 34 34 (.tmp 129) (.tmp 134) rfl (bs pp) (bs pp) rfl rfl Try.eqGuardType34 true HEQ.out) hS ?_
                  try simp only [Act.put, nz]
                  refine tkI (i := 16) (v := .bool false) rfl (Or.inl ⟨by rfl, fun w _ => by go_simp⟩) hS ?_
                  try simp only [Act.put, nz]
                  refine tkI (i := 17) (v := .bool false) rfl (Or.inl ⟨by rfl, fun w _ => by go_simp⟩) hS ?_
                  try simp only [Act.put, nz]
                  refine wpAnyH_done (by kernel_rfl) ?_ _
                  go_wp2
                  go_roundw
                  case rel => exact ⟨j + 1, _, _, _, by omega, by first | rfl | simp, by rw [← Nat.add_assoc]; exact fit8, tb8, kb8⟩
                  case measure => simp only [intOf]; omega
                | false =>
                  refine wp_region_held_drew (S := fun W => Row W A20 (bs pp) 34 ∧ Row W A9 (bs GP.flatten) 64 ∧ Row W A10 (nB KB) 66) (by kernel_rfl) ⟨l207.1, tb7.loc.1, kb7.1⟩ fun hS => ?_
                  have fit8 := fit_below fit7 (below_drew W7)
                  have tb8 := tb7.below (below_drew W7)
                  have kb8 := CLoc.below kb7 (below_drew W7)
                  clear tb7 kb7 fit7 l207
                  generalize W7.drew = W8 at hS fit8 tb8 kb8 ⊢
                  refine tkI (i := 0) (v := .int .i64 0) rfl (Or.inl ⟨by rfl, fun w _ => by rfl⟩) hS ?_
                  try simp only [Act.put, nz]
                  refine tkI (i := 1) (v := .bool false) rfl (Or.inl ⟨by rfl, fun w _ => by go_simp⟩) hS ?_
                  try simp only [Act.put, nz]
                  refine tkI (i := 2) (v := .bool false) rfl (Or.inl ⟨by rfl, fun w _ => by go_simp⟩) hS ?_
                  try simp only [Act.put, nz]
                  refine tkI (i := 3) (v := .int .i64 q) rfl (Or.inl ⟨by rfl, fun w _ => by go_simp⟩) hS ?_
                  try simp only [Act.put, nz]
                  refine tkI (i := 4) (v := .int .i64 j) rfl (Or.inl ⟨by rfl, fun w _ => by go_simp⟩) hS ?_
                  try simp only [Act.put, nz]
                  refine tkI (i := 5) (v := .pointer (some ⟨A10, q * 4, none⟩)) rfl (Or.inl ⟨by rfl, fun w _ => by go_simp⟩) hS ?_
                  try simp only [Act.put, nz]
                  refine tkI (i := 6) (v := .pointer (some ⟨A10, q * 4 + j, none⟩)) rfl (Or.inl ⟨by rfl, fun w _ => by go_simp⟩) hS ?_
                  try simp only [Act.put, nz]
                  refine tkI (i := 7) (v := .bool false) rfl (Or.inl ⟨by rfl, fun w h => by have c := row_at h.2.2 (q * 4 + j) _ HKX.out; go_simp⟩) hS ?_
                  try simp only [Act.put, nz]
                  refine tkI (i := 8) (v := .bool false) rfl (Or.inl ⟨by rfl, fun w _ => by go_simp⟩) hS ?_
                  try simp only [Act.put, nz]
                  refine tkI (i := 9) (v := undef) rfl (Or.inr ⟨by rfl, by rfl⟩) hS ?_
                  try simp only [Act.put, nz]
                  refine tkI (i := 10) (v := undef) rfl (Or.inr ⟨by rfl, by rfl⟩) hS ?_
                  try simp only [Act.put, nz]
                  refine tkI (i := 11) (v := undef) rfl (Or.inr ⟨by rfl, by rfl⟩) hS ?_
                  try simp only [Act.put, nz]
                  refine tkI (i := 12) (v := undef) rfl (Or.inr ⟨by rfl, by rfl⟩) hS ?_
                  try simp only [Act.put, nz]
                  refine tkI (i := 13) (v := undef) rfl (Or.inr ⟨by rfl, by rfl⟩) hS ?_
                  try simp only [Act.put, nz]
                  refine tkI (i := 14) (v := undef) rfl (Or.inr ⟨by rfl, by rfl⟩) hS ?_
                  try simp only [Act.put, nz]
                  refine tkI (i := 15) (v := undef) rfl (Or.inr ⟨by rfl, by rfl⟩) hS ?_
                  try simp only [Act.put, nz]
                  refine tkI (i := 16) (v := .bool false) rfl (Or.inl ⟨by rfl, fun w _ => by go_simp⟩) hS ?_
                  try simp only [Act.put, nz]
                  refine tkI (i := 17) (v := .bool false) rfl (Or.inl ⟨by rfl, fun w _ => by go_simp⟩) hS ?_
                  try simp only [Act.put, nz]
                  refine wpAnyH_done (by kernel_rfl) ?_ _
                  go_wp2
                  go_roundw
                  case rel => exact ⟨j + 1, _, _, _, by omega, by first | rfl | simp, by rw [← Nat.add_assoc]; exact fit8, tb8, kb8⟩
                  case measure => simp only [intOf]; omega
              · have hj8' : ¬ (j : Int) < 4 := by omega
                obtain rfl : j = 4 := by omega
                go_wp2
                go_roundw
                case rel => exact ⟨q + 1, F, s, d, by omega, by first | rfl | simp, by rw [show (q + 1) * 4 = q * 4 + 4 by omega]; exact fit, tb, kb⟩
                case measure => simp only [intOf]; omega
          · have hq2' : ¬ (q : Int) < 2 := by omega
            have haw := HAW.out wr
            go_wp2_with (go_at_call 14; refine Calls.mono haw ?_; clear haw; rintro e W5 ⟨he, hb⟩; obtain rfl := he)
            rw [HPP.out]
            exact ⟨rfl, fit.cs.1.trans (hb.mono fit.cs.1.size)⟩
set_option maxRecDepth 100000 in
theorem lifted (os : Os) (started : os.Started) (H : Type) (enc : TypeId × Value → H) :
    ReturnsInHanded {} Try.checked os 6 .any (Rows.cacheLastsSpec.pre6 enc Try.prog Try.f6 Rows.cacheLastsRow.domain false) (Rows.cacheLastsSpec.post enc Try.prog Try.f6 false true false false) := by
  refine returnsInHanded_of_change_sized (C := Try.checked) own started (by kernel_rfl) Try.func6
    (ChangeSpec.witness6 (enc := enc) (C := Try.checked) false ⟨#[], #[.int .u8 0, .slice none 0 0], []⟩ 8 (by kernel_rfl) (by kernel_rfl) (by kernel_rfl) (by kernel_rfl)) ?_
  intro W base args ds gs before hval0 hW hcnd hsz0 _
  have hval : ∀ (j : Nat) t v, Try.f6.params[j]? = some t → args[j]? = some v → Value.okWide Try.prog W .any base t v := hval0
  have hW' := hW
  obtain ⟨p, q, hA0, hV, rfl, hfz, hnd⟩ := hW
  have hA : DataW.TrodAll enc Try.prog W 0 (fun _ => true) true Try.f6.params.toList args.toList ds p := hA0
  have hsz : (DataW.weightsEach Try.prog (Try.f6.params.toList ++ []) (ds ++ gs)).all (· ≤ reachBytes) = true := hsz0
  rw [Try.params6] at hA hval hsz
  obtain ⟨v0, vs0, d0, ds0, p0, q0, hargs, rfl, rfl, h0, r0⟩ := trodAll_cons hA
  obtain ⟨v1, vs1, d1, ds1, p1, q1, rfl, rfl, rfl, h1, r1⟩ := trodAll_cons r0
  obtain ⟨rfl, rfl, rfl⟩ := trodAll_nil r1
  obtain rfl : args = #[v0, v1] := by cases args; simp_all
  obtain ⟨rfl, rfl⟩ := trodVars_none hV
  simp only [List.append_nil] at hsz
  have hlt : ∀ x ∈ (p0 ++ (p1 ++ [])), x.block < W.heap.size := fun x hx => hW'.lt x (by simpa using hx)
  have hw0 : (d0.weights Try.prog 5).all (· ≤ reachBytes) = true := List.all_eq_true.2 fun m hm => List.all_eq_true.1 hsz m (by simp [DataW.weightsEach, hm])
  have hw1 : (d1.weights Try.prog 22).all (· ≤ reachBytes) = true := List.all_eq_true.2 fun m hm => List.all_eq_true.1 hsz m (by simp [DataW.weightsEach, hm])
  have k0 := h0
  have k1 := h1
  obtain ⟨a0, rfl, rfl, rfl, w0⟩ := open_int Try.underlying5 (hval 0 5 v0 rfl rfl) h0
  obtain ⟨a1, w1⟩ := open_xos (hval 1 22 v1 rfl rfl) h1 hw1
  clear hA0 hval0
  simp only [List.append_nil] at hW'
  refine (walk W a0 v1 a1 w0 w1).mono fun e W' ⟨he, hg⟩ => ?_
  subst he
  exact ⟨_, rfl, ⟨_, _, _, [], ([] ++ (p1 ++ [])), [], hW', (trodAll_cons_mk (shut_bool Try.underlying4 _) trodAll_mk0), (trodAll_cons_mk (Below.trod laidOut (by kernel_rfl) (of_decide_eq_true (by kernel_rfl)) k0 hg (fun x hx => (nomatch hx))) (trodAll_cons_mk (Below.trod laidOut (by kernel_rfl) (of_decide_eq_true (by kernel_rfl)) k1 hg (fun x hx => hlt x (by simp [hx]))) trodAll_mk0)), rfl,
    hg.frame _, fun h => by cases h⟩⟩
theorem over : Rows.cacheLastsRow.holds Try.pinned (OpenSpec.ofChange Rows.cacheLastsSpec) :=
  OpenClaim.holds_of_wide 6 Try.f6 rfl rfl rfl rfl rfl rfl rfl ⟨rfl, rfl, rfl, rfl, rfl⟩ rfl rfl rfl rfl rfl (by kernel_rfl) Try.func6 (by kernel_rfl)
    (of_decide_eq_true (by kernel_rfl)) (by unfold Func.isWrapper; first | (rw [if_pos (by decide +kernel)]; kernel_rfl) | (rw [if_neg (by decide +kernel)]; exact ⟨rfl, rfl⟩))
    (fun os started H enc _ => lifted os started H enc)
theorem proved : Rows.CacheLastsSaid :=
  over
#print axioms proved
end Go.Proofs.Ytehogiondcpbcaa.cacheLasts
