/-
  HistFinds: each thing that may not be is seen where it is made. No conditions.
-/
import Derived.Test.YtdlllnkcjfpajaaJq16
namespace Go.Proofs.Ytdlllnkcjfpajaa.histFinds
open Go.ChangeShapes Go.WideShapes Go.ChangeAt Go.RowKit
open Go.Deep
set_option linter.unusedVariables false
set_option linter.unusedSimpArgs false
theorem own : ownKnob Try.prog.godebug = none := by kernel_rfl
set_option maxRecDepth 20000 in
set_option maxHeartbeats 8000000 in
theorem walk (w : World) (v0 : Value) (a0 : List Hm) (pI tI : Int) (p0 : Pasts w v0 a0) (wp : (Lit.int .u16 pI).wf = true) (wt : (Lit.int .u32 tI).wf = true) :
    Calls Try.prog 8 #[v0, .int .u16 pI, .int .u32 tI] w fun e w' => e = .returned (.bool true) ∧ Below w.heap.size w w' := by
  have hz39 := Pa.zero39
  have hf0 := p0.copied
  have hpI := bounds_u16 wp
  have htI := bounds_u32 wt
  have HFO : Hid (∀ w', Below w.heap.size w w' → (fun e w' => e = Ending.returned (.bool true) ∧ Below w.heap.size w w') (.returned (.bool true)) w') := fun w' h => ⟨rfl, h⟩
  generalize (fun e w' => e = Ending.returned (.bool true) ∧ Below w.heap.size w w') = PP at HFO ⊢
  have HF0 : Hid (∀ e w', Fewed w a0 e w' → ∃ v qs, e = .returned v ∧ Helds w' v qs ∧ qs.map Hm.p = (a0.take 9).map (fun h => cutP h.p) ∧ Below w.heap.size w w' ∧ Pa.Own w' w.heap.size v (qs.map Hm.o) ∧ ∀ h ∈ qs, Own1 w' w.heap.size h) := fun e w' q => q
  generalize Fewed w a0 = F0 at hf0 HF0
  clear p0 wp wt
  obtain ⟨B, HB⟩ : ∃ B, Hid (w.heap.size = B) := ⟨_, rfl⟩
  go_enter Try.func8, Try.ntmps8
  go_upto_region 2 with (go_at_call 10; refine hf0.mono ?_; clear hf0; intro e w1 hq; obtain ⟨v2, qs, he, hh, hp, hb, hown, heach⟩ := HF0.out _ _ hq; obtain rfl := he; clear hq; have HH0 : Hid (Helds w1 v2 qs) := hh; have HOW : Hid (Pa.Own w1 w.heap.size v2 (qs.map Hm.o)) := hown; obtain ⟨oa2, cap2, hv2, hcs2⟩ := Pa.Own.holdP hown; obtain ⟨n2, HN2⟩ : ∃ n2, Hid (qs.length = n2) := ⟨_, rfl⟩; rw [HN2.out] at hv2 hcs2; subst hv2; have HH : Hid (Helds w1 (.slice oa2 n2 cap2) qs) := hh; have HCS : Hid (∀ i, i < n2 → ∃ (a : Addr) (x : Hm), oa2 = some a ∧ qs[i]? = some x ∧ ∀ j u, x.o.cells[j]? = some u → w1.cell? ((a.add (i * 5)).add j) = some u) := hcs2; clear hcs2; have HB1 : Hid (Below w.heap.size w w1) := hb; have HE : Hid (∀ h ∈ qs, Own1 w1 w.heap.size h) := heach; have HP : Hid (qs.map Hm.p = (a0.take 9).map (fun h => cutP h.p)) := hp; clear hh hp hb hown heach)
  have hq9 : qs.length ≤ 9 := by
    have := congrArg List.length HP.out
    simp at this
    omega
  have hc1 := check_any HH.out (by omega) (Nat.le_trans (List.length_filter_le _ _) (by omega))
  have HC : Hid (∀ (ps : List Hm) (w0 : World) e w', Checked w0 ps e w' → ∃ x er, e = .returned (.tuple #[.int .u8 x, .int .i64 er]) ∧ ResH ps x er ∧ Below w0.heap.size w0 w') := fun ps w0 e w' q => q.res
  obtain ⟨C1, HC1⟩ : ∃ C1, Hid (Checked w1 qs = C1) := ⟨_, rfl⟩
  rw [HC1.out] at hc1
  go_upto_region 3 with (go_at_call 11; refine hc1.mono ?_; clear hc1; intro e w2 hq; rw [← HC1.out] at hq; obtain ⟨x, er, he, hr, hb⟩ := HC.out _ _ _ _ hq; obtain rfl := he; clear hq; have HR : Hid (ResH qs x er) := hr; have HB2 : Hid (Below w1.heap.size w1 w2) := hb; clear hr hb)
  have HB02 : Hid (Below w.heap.size w w2) := below_trans HB1.out HB2.out
  have hn9 : n2 ≤ 9 := by rw [← HN2.out]; exact hq9
  have HAW : Hid (∀ w', Below w.heap.size w w' → Calls Try.prog 14 #[] w' fun e w'' => e = .returned (.bool true) ∧ Below w.heap.size w w'') := fun w' hb => (awake_any w').mono fun e w'' ⟨q1, q2⟩ => ⟨q1, below_trans hb q2⟩
  rcases HR.out with ⟨hf, rfl, rfl⟩ | ⟨hf, rfl, _⟩
  · have haw := HAW.out w2 HB02.out
    clear hf
    go_wp2_with (go_at_call 14; refine haw.mono ?_; clear haw; rintro e w10 ⟨he, hb10⟩; obtain rfl := he; have hfin := HFO.out w10 hb10; clear hb10)
    exact hfin
  · have HF : Hid (isHF (qs.map Hm.p) [] = true) := hf
    clear hf
    have B0 : Below w2.heap.size w2 w2 := Below.refl _ _
    have M0 : ∀ (i : Nat) (h : Hm), i < 0 → qs[i]? = some h → h.p.st ≤ 0 ∧ h.p.co ≤ 0 := fun i h hi => by omega
    go_upto_region 7 with fail
    go_loopw [9, 39] (fun p q wr => ∃ (m : Int) (k : Nat), p = .int .u32 m ∧ q = .int .i64 (k : Int) ∧ k ≤ n2 ∧ 0 ≤ m ∧ m ≤ 4294967295 ∧ (∀ (i : Nat) (h : Hm), i < k → qs[i]? = some h → h.p.st ≤ m ∧ h.p.co ≤ m) ∧ Below w2.heap.size w2 wr) (fun p q _ => 10 - (intOf q).toNat)
    case atStart => exact ⟨0, 0, rfl, rfl, Nat.zero_le _, Int.le_refl _, by decide, M0, B0⟩
    case round =>
      clear B0 M0
      obtain ⟨m, k, rfl, rfl, hk, hm0, hm1, hM, hB⟩ := hrel
      have HM : Hid (∀ (i : Nat) (h : Hm), i < k → qs[i]? = some h → h.p.st ≤ m ∧ h.p.co ≤ m) := hM
      have HBW : Hid (Below w2.heap.size w2 wr) := hB
      clear hM hB
      by_cases hlt : k < n2
      · have hlt' : (k : Int) < (n2 : Int) := by omega
        have k3 : (0 : Int) ≤ (k : Int) := by omega
        obtain ⟨a, x, rfl, hx, hcell⟩ := HCS.out k hlt
        obtain ⟨P, ⟨ra, rn, rc⟩, ⟨wa, wn, wc⟩⟩ := x
        have HX : Hid (qs[k]? = some ⟨P, ⟨ra, rn, rc⟩, ⟨wa, wn, wc⟩⟩) := hx
        have hfit := HH.out.fit _ (List.mem_of_getElem? hx)
        have hst : 0 ≤ P.st ∧ P.st ≤ 4294967295 := hfit.st
        have hco : 0 ≤ P.co ∧ P.co ≤ 4294967295 := hfit.co
        have hcw : ∀ q u, (Pa.O.cells ⟨P.st, P.co, P.dn, ⟨ra, rn, rc⟩, ⟨wa, wn, wc⟩⟩)[q]? = some u → wr.cell? ((a.add (k * 5)).add q) = some u := fun q u hq => cell_keep (cell_keep (hcell q u hq) HB2.out) HBW.out
        have hz39 := Pa.zero39
        have tl : Hid (1 = 1) := rfl
        have q1 : Row (wr.alloc (.cells Pa.O.zero.arr 39)) wr.heap.size Pa.O.zero.arr 39 := Row.new _ _ _
        obtain ⟨k1, k2⟩ := copied wr (⟨P.st, P.co, P.dn, ⟨ra, rn, rc⟩, ⟨wa, wn, wc⟩⟩ : Pa.O)
        have HB5 : Hid (Below w2.heap.size w2 ((wr.alloc (.cells Pa.O.zero.arr 39)).setRow wr.heap.size (Pa.O.arr ⟨P.st, P.co, P.dn, ⟨ra, rn, rc⟩, ⟨wa, wn, wc⟩⟩))) := below_trans HBW.out k2
        clear hcell hx k2 hfit
        go_upto_region 9 with (first
          | (have hh := tl; clear hh tl; refine wpList_load_any rfl 39 (.tmp 41) rfl (a.add (k * 5)) rfl (Pa.O.cells ⟨P.st, P.co, P.dn, ⟨ra, rn, rc⟩, ⟨wa, wn, wc⟩⟩) _ hcw Try.underlying39 rfl Pa.size39 ?_)
          | (refine store_cells rfl 39 (.tmp 11) (.tmp 42) rfl wr.heap.size (Pa.O.arr ⟨P.st, P.co, P.dn, ⟨ra, rn, rc⟩, ⟨wa, wn, wc⟩⟩) rfl rfl 39 _ q1 5 Pa.size39 rfl rfl (Pa.O.arr_one _) ?_))
        clear q1 hcw
        generalize (wr.alloc (.cells Pa.O.zero.arr 39)).setRow wr.heap.size (Pa.O.arr ⟨P.st, P.co, P.dn, ⟨ra, rn, rc⟩, ⟨wa, wn, wc⟩⟩) = w5 at k1 HB5 ⊢
        have k1 : Row w5 wr.heap.size #[.int .u32 P.st, .int .u32 P.co, .bool P.dn, .slice ra rn rc, .slice wa wn wc] 39 := k1
        have f0 : w5.cell? ⟨wr.heap.size, 0, none⟩ = some (.int .u32 P.st) := row_at k1 0 _ rfl
        have f1 : w5.cell? ⟨wr.heap.size, 1, none⟩ = some (.int .u32 P.co) := row_at k1 1 _ rfl
        generalize wr.heap.size = T at k1 f0 f1 ⊢
        clear k1
        obtain ⟨m2, hm2⟩ : ∃ m2, (if P.co > (if P.st > m then P.st else m) then P.co else (if P.st > m then P.st else m)) = m2 := ⟨_, rfl⟩
        have HMX : Hid (m ≤ m2 ∧ P.st ≤ m2 ∧ P.co ≤ m2 ∧ m2 ≤ 4294967295) := by
          show _ ∧ _
          rw [← hm2]
          by_cases h1 : P.st > m
          · rw [if_pos h1]
            by_cases h2 : P.co > P.st
            · rw [if_pos h2]; omega
            · rw [if_neg h2]; omega
          · rw [if_neg h1]
            by_cases h2 : P.co > m
            · rw [if_pos h2]; omega
            · rw [if_neg h2]; omega
        go_wp2_with (refine wpList_max3 rfl (.tmp 43) (.tmp 45) (.tmp 47) rfl m P.st P.co rfl rfl rfl m2 hm2 ?_; clear hm2)
        go_roundw
        case rel => exact ⟨m2, k + 1, rfl, by go_num, by omega, by have := HMX.out; omega, HMX.out.2.2.2, fun i h hi hh => by
          by_cases e : i = k
          · subst e
            have := HX.out; rw [hh] at this; have := Option.some.inj this; subst this
            exact ⟨HMX.out.2.1, HMX.out.2.2.1⟩
          · have := HM.out i h (by omega) hh; have := HMX.out; omega, HB5.out⟩
        case measure => simp [intOf]; omega
      · have hlt' : ¬ (k : Int) < (n2 : Int) := by omega
        obtain rfl : k = n2 := by omega
        by_cases hbig : m > 2147483648
        · have haw := HAW.out wr (below_trans HB02.out HBW.out)
          go_wp2_with (go_at_call 14; refine haw.mono ?_; clear haw; rintro e w10 ⟨he, hb10⟩; obtain rfl := he; have hfin := HFO.out w10 hb10; clear hb10)
          exact hfin
        · obtain ⟨pg, hpg⟩ : ∃ pg : Int, 40000 + Int.tmod pI 8 = pg := ⟨_, rfl⟩
          go_upto_region 15 with fail
          obtain ⟨pg, hpg⟩ : ∃ pg : Int, pI % 8 + 40000 = pg := ⟨_, rfl⟩
          have hpg1 : 40000 ≤ pg ∧ pg < 40008 := by omega
          rw [hpg]
          have HMA : Hid (∀ (i : Nat) (h : Hm), i < k → qs[i]? = some h → h.p.st ≤ m ∧ h.p.co ≤ m) := HM.out
          have HBW0 : Hid (Below w2.heap.size w2 wr) := HBW.out
          have N0 : ∀ (i : Nat) (h : Hm), i < 0 → qs[i]? = some h → ∀ x ∈ h.p.ws, ¬ (40000 ≤ x ∧ x < 40008) := fun i h hi => by omega
          have B0 := HBW.out
          clear HBW HM hpg
          go_loopw [58] (fun q wr => ∃ (j : Nat), q = .int .i64 (j : Int) ∧ j ≤ k ∧ (∀ (i : Nat) (h : Hm), i < j → qs[i]? = some h → ∀ x ∈ h.p.ws, ¬ (40000 ≤ x ∧ x < 40008)) ∧ Below w2.heap.size w2 wr) (fun q _ => 10 - (intOf q).toNat)
          case atStart => exact ⟨0, rfl, Nat.zero_le _, N0, B0⟩
          case round =>
            clear N0 B0
            rename World => wx
            obtain ⟨j, rfl, hj, hN, hB⟩ := hrel
            have HN : Hid (∀ (i : Nat) (h : Hm), i < j → qs[i]? = some h → ∀ x ∈ h.p.ws, ¬ (40000 ≤ x ∧ x < 40008)) := hN
            have HBX : Hid (Below w2.heap.size w2 wx) := hB
            clear hN hB
            by_cases hjk : j < k
            · have hjk' : (j : Int) < (k : Int) := by omega
              have j3 : (0 : Int) ≤ (j : Int) := by omega
              obtain ⟨a, x, rfl, hx, hcell⟩ := HCS.out j hjk
              obtain ⟨P, ⟨ra, rn, rc⟩, ⟨wa, wn, wc⟩⟩ := x
              have HX : Hid (qs[j]? = some ⟨P, ⟨ra, rn, rc⟩, ⟨wa, wn, wc⟩⟩) := hx
              have H1 : Hid (Held1 w1 ⟨P, ⟨ra, rn, rc⟩, ⟨wa, wn, wc⟩⟩) := HH.out.each _ (List.mem_of_getElem? hx)
              have hfit := HH.out.fit _ (List.mem_of_getElem? hx)
              have hwn : wn = P.ws.length := H1.out.wn
              have hwl : wn ≤ 1000 := by rw [hwn]; exact hfit.wl
              have HWN : Hid (wn = P.ws.length) := hwn
              have hcw : ∀ q u, (Pa.O.cells ⟨P.st, P.co, P.dn, ⟨ra, rn, rc⟩, ⟨wa, wn, wc⟩⟩)[q]? = some u → wx.cell? ((a.add (j * 5)).add q) = some u := fun q u hq => cell_keep (cell_keep (hcell q u hq) HB2.out) HBX.out
              have hz39 := Pa.zero39
              have tl : Hid (1 = 1) := rfl
              have q1 : Row (wx.alloc (.cells Pa.O.zero.arr 39)) wx.heap.size Pa.O.zero.arr 39 := Row.new _ _ _
              obtain ⟨k1, k2⟩ := copied wx (⟨P.st, P.co, P.dn, ⟨ra, rn, rc⟩, ⟨wa, wn, wc⟩⟩ : Pa.O)
              have HB5 : Hid (Below w2.heap.size w2 ((wx.alloc (.cells Pa.O.zero.arr 39)).setRow wx.heap.size (Pa.O.arr ⟨P.st, P.co, P.dn, ⟨ra, rn, rc⟩, ⟨wa, wn, wc⟩⟩))) := below_trans HBX.out k2
              clear hcell hx k2 hfit hwn
              go_upto_region 17 with (first
                | (have hh := tl; clear hh tl; refine wpList_load_any rfl 39 (.tmp 60) rfl (a.add (j * 5)) rfl (Pa.O.cells ⟨P.st, P.co, P.dn, ⟨ra, rn, rc⟩, ⟨wa, wn, wc⟩⟩) _ hcw Try.underlying39 rfl Pa.size39 ?_)
                | (refine store_cells rfl 39 (.tmp 13) (.tmp 61) rfl wx.heap.size (Pa.O.arr ⟨P.st, P.co, P.dn, ⟨ra, rn, rc⟩, ⟨wa, wn, wc⟩⟩) rfl rfl 39 _ q1 5 Pa.size39 rfl rfl (Pa.O.arr_one _) ?_))
              clear q1 hcw
              generalize (wx.alloc (.cells Pa.O.zero.arr 39)).setRow wx.heap.size (Pa.O.arr ⟨P.st, P.co, P.dn, ⟨ra, rn, rc⟩, ⟨wa, wn, wc⟩⟩) = w5 at k1 HB5 ⊢
              have k1 : Row w5 wx.heap.size #[.int .u32 P.st, .int .u32 P.co, .bool P.dn, .slice ra rn rc, .slice wa wn wc] 39 := k1
              have f4 : w5.cell? ⟨wx.heap.size, 4, none⟩ = some (.slice wa wn wc) := row_at k1 4 _ rfl
              generalize wx.heap.size = T at k1 f4 ⊢
              clear k1
              go_upto_region 18 with fail
              clear f4
              have L0 : ∀ (q : Nat) (x : Int), q < 0 → P.ws[q]? = some x → ¬ (40000 ≤ x ∧ x < 40008) := fun q x hq => by omega
              have B5 := HB5.out
              go_loopw [65] (fun q wr => ∃ (l : Nat), q = .int .i64 (l : Int) ∧ l ≤ wn ∧ (∀ (q : Nat) (x : Int), q < l → P.ws[q]? = some x → ¬ (40000 ≤ x ∧ x < 40008)) ∧ wr = w5) (fun q _ => 1001 - (intOf q).toNat)
              case atStart => exact ⟨0, rfl, Nat.zero_le _, L0, rfl⟩
              case round =>
                clear L0 B5
                rename World => wy
                obtain ⟨l, rfl, hl, hL, hww⟩ := hrel
                subst hww
                have HL : Hid (∀ (q : Nat) (x : Int), q < l → P.ws[q]? = some x → ¬ (40000 ≤ x ∧ x < 40008)) := hL
                clear hL
                by_cases hll : l < wn
                · have hll' : (l : Int) < (wn : Int) := by omega
                  have l3 : (0 : Int) ≤ (l : Int) := by omega
                  obtain ⟨b, y, rfl, hy, hcy⟩ := H1.out.wat l hll
                  have hpw : wy.cell? (b.add l) = some (.int .u16 y) := cell_keep (cell_keep hcy HB2.out) HB5.out
                  have HY : Hid (P.ws[l]? = some y) := hy
                  clear hcy hy
                  by_cases h1 : y ≥ 40000
                  · have d1 : decide (y ≥ 40000) = true := decide_eq_true h1
                    by_cases h2 : y < 40008
                    · have d2 : decide (y < 40008) = true := decide_eq_true h2
                      have haw := HAW.out wy (below_trans HB02.out HB5.out)
                      go_wp2_with (go_at_call 14; refine haw.mono ?_; clear haw; rintro e w10 ⟨he, hb10⟩; obtain rfl := he; have hfin := HFO.out w10 hb10; clear hb10)
                      exact hfin
                    · have d2 : decide (y < 40008) = false := decide_eq_false h2
                      go_wp2
                      go_roundw
                      case rel => exact ⟨l + 1, by go_num, by omega, fun q x hq hx => by
                        by_cases e : q = l
                        · subst e; have := HY.out; rw [hx] at this; have := Option.some.inj this; omega
                        · exact HL.out q x (by omega) hx, trivial⟩
                      case measure => simp [intOf]; omega
                  · have d1 : decide (y ≥ 40000) = false := decide_eq_false h1
                    go_wp2
                    go_roundw
                    case rel => exact ⟨l + 1, by go_num, by omega, fun q x hq hx => by
                      by_cases e : q = l
                      · subst e; have := HY.out; rw [hx] at this; have := Option.some.inj this; omega
                      · exact HL.out q x (by omega) hx, trivial⟩
                    case measure => simp [intOf]; omega
                · have hll' : ¬ (l : Int) < (wn : Int) := by omega
                  go_wp2
                  go_roundw
                  case rel => exact ⟨j + 1, by go_num, by omega, fun i h hi hh x hx => by
                    by_cases e : i = j
                    · subst e
                      have := HX.out; rw [hh] at this; have := Option.some.inj this; subst this
                      obtain ⟨q, hq⟩ := List.getElem?_of_mem hx
                      exact HL.out q x (by have := (List.getElem?_eq_some_iff.1 hq).1; have := HWN.out; simp at *; omega) hq
                    · exact HN.out i h (by omega) hh x hx, HB5.out⟩
                  case measure => simp [intOf]; omega
            · have hjk' : ¬ (j : Int) < (k : Int) := by omega
              obtain rfl : j = k := by omega
              have HUN : Hid (Under qs m pg) := ⟨HF.out, fun h hm => by
                obtain ⟨i, hi⟩ := List.getElem?_of_mem hm
                exact HMA.out i h (by have := (List.getElem?_eq_some_iff.1 hi).1; have := HN2.out; omega) hi, fun h hm hp => by
                obtain ⟨i, hi⟩ := List.getElem?_of_mem hm
                exact HN.out i h (by have := (List.getElem?_eq_some_iff.1 hi).1; have := HN2.out; omega) hi pg hp hpg1⟩
              obtain ⟨tn, htn⟩ : ∃ tn : Int, tI % 1000 + 1 = tn := ⟨_, rfl⟩
              have htn1 : 1 ≤ tn ∧ tn ≤ 1000 := by omega
              go_upto_region 25 with fail
              try rw [htn]
              clear htn
              have HOX : Hid (∀ w', Below w2.heap.size w2 w' → Calls Try.prog 10 #[.slice oa2 j cap2] w' fun e w'' => Again w' qs e w'') := fun w' hb => few_again ((HH.out.keep HB2.out).keep hb) (fun h hm => ((HE.out h hm).keep HB2.out).keep hb) HP.out
              have hfa := HOX.out wx HBX.out
              have HAG : Hid (∀ w0 e w', Again w0 qs e w' → ∃ v js, e = .returned v ∧ js.map Hm.p = qs.map Hm.p ∧ Below w0.heap.size w0 w' ∧ AllS w' w0.heap.size v js) := fun w0 e w' q => q
              obtain ⟨G1, HG1⟩ : ∃ G1, Hid (Again wx qs = G1) := ⟨_, rfl⟩
              rw [HG1.out] at hfa
              have hb46 := built46p pg tn
              have hb39 := built39r m
              go_upto_region 26 with (first
                | (go_at_call 10; refine hfa.mono ?_; clear hfa; intro e w10 hq; rw [← HG1.out] at hq; obtain ⟨v10, js, he, hjs, hb10, hA10⟩ := HAG.out _ _ _ hq; obtain rfl := he; clear hq
                   have HJ : Hid (js.map Hm.p = qs.map Hm.p) := hjs
                   have HB10 : Hid (Below wx.heap.size wx w10) := hb10
                   have HA10 : Hid (AllS w10 wx.heap.size v10 js) := hA10
                   clear hjs hb10 hA10)
                | (refine wpList_seen rfl (.tmp 87) rfl pg tn rfl ?_; clear hb46)
                | (refine wpList_one rfl (.tmp 89) rfl (readH m pg tn w10.heap.size).o rfl ?_
                   clear hb39
                   have r1 : Row (w10.alloc (.cells #[.int .u16 pg, .int .u32 tn] 46)) w10.heap.size #[.int .u16 pg, .int .u32 tn] 46 := Row.new _ _ _
                   have c1 : Below w10.heap.size w10 (w10.alloc (.cells #[.int .u16 pg, .int .u32 tn] 46)) := (Below.refl _ _).alloc (Nat.le_refl _) _
                   have HA11 : Hid (AllS (w10.alloc (.cells #[.int .u16 pg, .int .u32 tn] 46)) wx.heap.size v10 js) := HA10.out.below c1
                   have HB11 : Hid (Below wx.heap.size wx (w10.alloc (.cells #[.int .u16 pg, .int .u32 tn] 46))) := below_trans HB10.out c1
                   have HO11 : Hid (Own1 (w10.alloc (.cells #[.int .u16 pg, .int .u32 tn] 46)) wx.heap.size (readH m pg tn w10.heap.size)) := readH.own r1 HB10.out.size
                   clear r1 c1
                   generalize w10.alloc (.cells #[.int .u16 pg, .int .u32 tn] 46) = w11 at HA11 HB11 HO11 ⊢
                   generalize w10.heap.size = b10 at HO11 ⊢
                   have rZ : Row (w11.alloc (.cells (readH m pg tn b10).o.arr 39)) w11.heap.size (readH m pg tn b10).o.arr 39 := Row.new _ _ _
                   have c2 : Below w11.heap.size w11 (w11.alloc (.cells (readH m pg tn b10).o.arr 39)) := (Below.refl _ _).alloc (Nat.le_refl _) _
                   have HB12 : Hid (Below wx.heap.size wx (w11.alloc (.cells (readH m pg tn b10).o.arr 39))) := below_trans HB11.out c2
                   have HAP : Hid (∀ ty, ∃ v' w', (Builtin.append_ #[22, 22] ty #[v10, .slice (some ⟨w11.heap.size, 0, none⟩) 1 1]).run Try.prog (w11.alloc (.cells (readH m pg tn b10).o.arr 39)) = .ok v' w' ∧ AllS w' wx.heap.size v' (js ++ [readH m pg tn b10]) ∧ Off (fun g => v10.ownBlock = some g) (w11.alloc (.cells (readH m pg tn b10).o.arr 39)) w' ∧ (v'.ownBlock = v10.ownBlock ∨ ∃ g, v'.ownBlock = some g ∧ (w11.alloc (.cells (readH m pg tn b10).o.arr 39)).heap.size ≤ g)) := fun ty => (HA11.out.below c2).snoc (HO11.out.keep c2) (oneP.fit ⟨hm0, hm1⟩ ⟨by omega, by omega⟩ ⟨by omega, by omega⟩) (by have := congrArg List.length HJ.out; simp at this; omega) HB12.out.size ty _ rZ
                   clear rZ c2)
                | (refine Pa.wpList_copy rfl (.tmp 83) (.tmp 90) 22 rfl v10 (.slice (some ⟨w11.heap.size, 0, none⟩) 1 1) rfl rfl HAP.out ?_
                   clear HAP
                   generalize w11.alloc (.cells (readH m pg tn b10).o.arr 39) = w12 at HB12
                   rintro v13 w13 ⟨hA13, hO13, _⟩
                   have HB13 : Hid (Below wx.heap.size wx w13) := below_off HB12.out hO13 (fun g hg => (World.ownsRow.lt HA11.out.own g hg).1)
                   have hlen : (js ++ [readH m pg tn b10]).length ≤ 11 := by have := congrArg List.length HJ.out; simp at this; simp; omega
                   have hck := check_any hA13.helds (by omega) (Nat.le_trans (List.length_filter_le _ _) (by omega))
                   clear hA13 hO13 hlen
                   obtain ⟨C3, HC3⟩ : ∃ C3, Hid (Checked w13 (js ++ [readH m pg tn b10]) = C3) := ⟨_, rfl⟩
                   rw [HC3.out] at hck)
                | (go_at_call 11; refine hck.mono ?_; clear hck; intro e w14 hq; rw [← HC3.out] at hq; obtain ⟨y1, f1, he, hr2, hb14⟩ := HC.out _ _ _ _ hq; obtain rfl := he; clear hq
                   obtain ⟨hf1, c1, i1, m1, hy1⟩ := (HUN.out.same HJ.out).one (z := readH m pg tn b10) rfl (by omega) hr2
                   subst hf1 hy1
                   have HB14 : Hid (Below w2.heap.size w2 w14) := below_trans HBX.out (below_trans HB13.out hb14)
                   clear hr2 hb14))
              have hm31 : m ≤ 2147483648 := by omega
              have rW0 : Row (w14.alloc (.cells #[.int .u16 pg] 44)) w14.heap.size #[.int .u16 pg] 44 := Row.new _ _ _
              have HB15 : Hid (Below w2.heap.size w2 (w14.alloc (.cells #[.int .u16 pg] 44))) := below_trans HB14.out ((Below.refl _ _).alloc (Nat.le_refl _) _)
              go_upto_region 27 with fail
              generalize w14.alloc (.cells #[.int .u16 pg] 44) = w15 at rW0 HB15 ⊢
              generalize w14.heap.size = wb at rW0 ⊢
              have HRW : Hid (Row w15 wb #[.int .u16 pg] 44) := rW0
              have HWB : Hid (wb < w15.heap.size) := rW0.lt
              clear rW0
              have hfa := HOX.out w15 HB15.out
              obtain ⟨G2, HG2⟩ : ∃ G2, Hid (Again w15 qs = G2) := ⟨_, rfl⟩
              rw [HG2.out] at hfa
              have hb1 := built39w m (m + 1) wb
              have hb2 := built39w m (m + 2) wb
              go_upto_region 28 with (first
                | (go_at_call 10; refine hfa.mono ?_; clear hfa; intro e w20 hq; rw [← HG2.out] at hq; obtain ⟨v20, js2, he, hjs, hb10, hA10⟩ := HAG.out _ _ _ hq; obtain rfl := he; clear hq
                   have HJ2 : Hid (js2.map Hm.p = qs.map Hm.p) := hjs
                   have HB20 : Hid (Below w15.heap.size w15 w20) := hb10
                   have HA20 : Hid (AllS w20 w15.heap.size v20 js2) := hA10
                   clear hjs hb10 hA10)
                | (refine wpList_two rfl (.tmp 104) (.tmp 109) rfl (writeH m (m + 1) pg wb).o (writeH m (m + 2) pg wb).o rfl rfl ?_
                   clear hb1 hb2
                   have rZ : Row (w20.alloc (.cells (Pa.flat [(writeH m (m + 1) pg wb).o, (writeH m (m + 2) pg wb).o]).toArray 39)) w20.heap.size (Pa.flat [(writeH m (m + 1) pg wb).o, (writeH m (m + 2) pg wb).o]).toArray 39 := Row.new _ _ _
                   have c3 : Below w20.heap.size w20 (w20.alloc (.cells (Pa.flat [(writeH m (m + 1) pg wb).o, (writeH m (m + 2) pg wb).o]).toArray 39)) := (Below.refl _ _).alloc (Nat.le_refl _) _
                   have HB21 : Hid (Below w15.heap.size w15 (w20.alloc (.cells (Pa.flat [(writeH m (m + 1) pg wb).o, (writeH m (m + 2) pg wb).o]).toArray 39))) := below_trans HB20.out c3
                   have HR21 : Hid (Row (w20.alloc (.cells (Pa.flat [(writeH m (m + 1) pg wb).o, (writeH m (m + 2) pg wb).o]).toArray 39)) wb #[.int .u16 pg] 44) := HRW.out.below HB21.out HWB.out
                   have HAP : Hid (∀ ty, ∃ v' w', (Builtin.append_ #[22, 22] ty #[v20, .slice (some ⟨w20.heap.size, 0, none⟩) 2 2]).run Try.prog (w20.alloc (.cells (Pa.flat [(writeH m (m + 1) pg wb).o, (writeH m (m + 2) pg wb).o]).toArray 39)) = .ok v' w' ∧ AllS w' wb v' (js2 ++ [writeH m (m + 1) pg wb, writeH m (m + 2) pg wb]) ∧ Off (fun g => v20.ownBlock = some g) (w20.alloc (.cells (Pa.flat [(writeH m (m + 1) pg wb).o, (writeH m (m + 2) pg wb).o]).toArray 39)) w') := fun ty => AllS.two ((HA20.out.below c3).base (Nat.le_of_lt HWB.out)) (writeH.own HR21.out (Nat.le_refl wb)) (writeH.own HR21.out (Nat.le_refl wb)) (wrP.fit ⟨hm0, hm1⟩ ⟨by omega, by omega⟩ ⟨by omega, by omega⟩) (wrP.fit ⟨hm0, hm1⟩ ⟨by omega, by omega⟩ ⟨by omega, by omega⟩) (by have := congrArg List.length HJ2.out; simp at this; omega) (Nat.le_trans (Nat.le_of_lt HWB.out) HB21.out.size) ty _ rZ
                   clear rZ c3)
                | (refine Pa.wpList_copy rfl (.tmp 99) (.tmp 110) 22 rfl v20 (.slice (some ⟨w20.heap.size, 0, none⟩) 2 2) rfl rfl HAP.out ?_
                   clear HAP HR21
                   generalize w20.alloc (.cells (Pa.flat [(writeH m (m + 1) pg wb).o, (writeH m (m + 2) pg wb).o]).toArray 39) = w21 at HB21
                   rintro v22 w22 ⟨hA22, hO22⟩
                   have HB22 : Hid (Below w15.heap.size w15 w22) := below_off HB21.out hO22 (fun g hg => (World.ownsRow.lt HA20.out.own g hg).1)
                   have hlen : (js2 ++ [writeH m (m + 1) pg wb, writeH m (m + 2) pg wb]).length ≤ 11 := by have := congrArg List.length HJ2.out; simp at this; simp; omega
                   have hck := check_any hA22.helds (by omega) (Nat.le_trans (List.length_filter_le _ _) (by omega))
                   clear hA22 hO22 hlen
                   obtain ⟨C4, HC4⟩ : ∃ C4, Hid (Checked w22 (js2 ++ [writeH m (m + 1) pg wb, writeH m (m + 2) pg wb]) = C4) := ⟨_, rfl⟩
                   rw [HC4.out] at hck)
                | (go_at_call 11; refine hck.mono ?_; clear hck; intro e w24 hq; rw [← HC4.out] at hq; obtain ⟨y2, f2, he, hr2, hb14⟩ := HC.out _ _ _ _ hq; obtain rfl := he; clear hq
                   obtain ⟨hf2, A2, C2, M2, hy2⟩ := (HUN.out.same HJ2.out).two (z := writeH m (m + 1) pg wb) (y := writeH m (m + 2) pg wb) rfl rfl hr2
                   subst hf2 hy2
                   have HB24 : Hid (Below w15.heap.size w15 w24) := below_trans HB22.out hb14
                   clear hr2 hb14))
              have hfa := HOX.out w24 (below_trans HB15.out HB24.out)
              obtain ⟨G3, HG3⟩ : ∃ G3, Hid (Again w24 qs = G3) := ⟨_, rfl⟩
              rw [HG3.out] at hfa
              have hb1 := built39w m (m + 1) wb
              have hb2 := built39r (m + 1)
              have hb46 := built46z pg
              go_upto_region 29 with (first
                | (go_at_call 10; refine hfa.mono ?_; clear hfa; intro e w30 hq; rw [← HG3.out] at hq; obtain ⟨v30, js3, he, hjs, hb10, hA10⟩ := HAG.out _ _ _ hq; obtain rfl := he; clear hq
                   have HJ3 : Hid (js3.map Hm.p = qs.map Hm.p) := hjs
                   have HB30 : Hid (Below w24.heap.size w24 w30) := hb10
                   have HA30 : Hid (AllS w30 w24.heap.size v30 js3) := hA10
                   clear hjs hb10 hA10)
                | (refine wpList_seen rfl (.tmp 126) rfl pg 0 rfl ?_; clear hb46)
                | (refine wpList_two rfl (.tmp 122) (.tmp 128) rfl (writeH m (m + 1) pg wb).o (readH (m + 1) pg 0 w30.heap.size).o rfl rfl ?_
                   clear hb1 hb2
                   have r1 : Row (w30.alloc (.cells #[.int .u16 pg, .int .u32 0] 46)) w30.heap.size #[.int .u16 pg, .int .u32 0] 46 := Row.new _ _ _
                   have c1 : Below w30.heap.size w30 (w30.alloc (.cells #[.int .u16 pg, .int .u32 0] 46)) := (Below.refl _ _).alloc (Nat.le_refl _) _
                   have HA31 : Hid (AllS (w30.alloc (.cells #[.int .u16 pg, .int .u32 0] 46)) w24.heap.size v30 js3) := HA30.out.below c1
                   have HB31 : Hid (Below w24.heap.size w24 (w30.alloc (.cells #[.int .u16 pg, .int .u32 0] 46))) := below_trans HB30.out c1
                   have h2430 : wb ≤ w30.heap.size := Nat.le_trans (Nat.le_trans (Nat.le_of_lt HWB.out) HB24.out.size) HB30.out.size
                   have HO31 : Hid (Own1 (w30.alloc (.cells #[.int .u16 pg, .int .u32 0] 46)) wb (readH (m + 1) pg 0 w30.heap.size)) := readH.own r1 h2430
                   clear r1 c1 h2430
                   generalize w30.alloc (.cells #[.int .u16 pg, .int .u32 0] 46) = w31 at HA31 HB31 HO31 ⊢
                   generalize w30.heap.size = b30 at HO31 ⊢
                   have rZ : Row (w31.alloc (.cells (Pa.flat [(writeH m (m + 1) pg wb).o, (readH (m + 1) pg 0 b30).o]).toArray 39)) w31.heap.size (Pa.flat [(writeH m (m + 1) pg wb).o, (readH (m + 1) pg 0 b30).o]).toArray 39 := Row.new _ _ _
                   have c3 : Below w31.heap.size w31 (w31.alloc (.cells (Pa.flat [(writeH m (m + 1) pg wb).o, (readH (m + 1) pg 0 b30).o]).toArray 39)) := (Below.refl _ _).alloc (Nat.le_refl _) _
                   have HB32 : Hid (Below w24.heap.size w24 (w31.alloc (.cells (Pa.flat [(writeH m (m + 1) pg wb).o, (readH (m + 1) pg 0 b30).o]).toArray 39))) := below_trans HB31.out c3
                   have HR32 : Hid (Row (w31.alloc (.cells (Pa.flat [(writeH m (m + 1) pg wb).o, (readH (m + 1) pg 0 b30).o]).toArray 39)) wb #[.int .u16 pg] 44) := HRW.out.below (below_trans HB24.out HB32.out) HWB.out
                   have HAP : Hid (∀ ty, ∃ v' w', (Builtin.append_ #[22, 22] ty #[v30, .slice (some ⟨w31.heap.size, 0, none⟩) 2 2]).run Try.prog (w31.alloc (.cells (Pa.flat [(writeH m (m + 1) pg wb).o, (readH (m + 1) pg 0 b30).o]).toArray 39)) = .ok v' w' ∧ AllS w' wb v' (js3 ++ [writeH m (m + 1) pg wb, readH (m + 1) pg 0 b30]) ∧ Off (fun g => v30.ownBlock = some g) (w31.alloc (.cells (Pa.flat [(writeH m (m + 1) pg wb).o, (readH (m + 1) pg 0 b30).o]).toArray 39)) w') := fun ty => AllS.two ((HA31.out.below c3).base (Nat.le_trans (Nat.le_of_lt HWB.out) HB24.out.size)) (writeH.own HR32.out (Nat.le_refl wb)) (HO31.out.keep c3) (wrP.fit ⟨hm0, hm1⟩ ⟨by omega, by omega⟩ ⟨by omega, by omega⟩) (oneP.fit ⟨by omega, by omega⟩ ⟨by omega, by omega⟩ ⟨Int.le_refl _, by decide⟩) (by have := congrArg List.length HJ3.out; simp at this; omega) (Nat.le_trans (Nat.le_trans (Nat.le_of_lt HWB.out) HB24.out.size) HB32.out.size) ty _ rZ
                   clear rZ c3)
                | (refine Pa.wpList_copy rfl (.tmp 117) (.tmp 129) 22 rfl v30 (.slice (some ⟨w31.heap.size, 0, none⟩) 2 2) rfl rfl HAP.out ?_
                   clear HAP HR32
                   generalize w31.alloc (.cells (Pa.flat [(writeH m (m + 1) pg wb).o, (readH (m + 1) pg 0 b30).o]).toArray 39) = w32 at HB32
                   rintro v33 w33 ⟨hA33, hO33⟩
                   have HB33 : Hid (Below w24.heap.size w24 w33) := below_off HB32.out hO33 (fun g hg => (World.ownsRow.lt HA31.out.own g hg).1)
                   have hlen : (js3 ++ [writeH m (m + 1) pg wb, readH (m + 1) pg 0 b30]).length ≤ 11 := by have := congrArg List.length HJ3.out; simp at this; simp; omega
                   have hck := check_any hA33.helds (by omega) (Nat.le_trans (List.length_filter_le _ _) (by omega))
                   clear hA33 hO33 hlen
                   obtain ⟨C5, HC5⟩ : ∃ C5, Hid (Checked w33 (js3 ++ [writeH m (m + 1) pg wb, readH (m + 1) pg 0 b30]) = C5) := ⟨_, rfl⟩
                   rw [HC5.out] at hck)
                | (go_at_call 11; refine hck.mono ?_; clear hck; intro e w34 hq; rw [← HC5.out] at hq; obtain ⟨y3, f3, he, hr2, hb14⟩ := HC.out _ _ _ _ hq; obtain rfl := he; clear hq
                   obtain ⟨hf3, A3, C3', I3, hy3⟩ := (HUN.out.same HJ3.out).three hm0 (z := writeH m (m + 1) pg wb) (y := readH (m + 1) pg 0 b30) rfl rfl hr2
                   subst hf3 hy3
                   have HB34 : Hid (Below w2.heap.size w2 w34) := below_trans (below_trans HB15.out HB24.out) (below_trans HB33.out hb14)
                   clear hr2 hb14))
              have hbit1 := bit_one c1 i1 m1
              have hbit2 := bit_two A2 C2 M2
              have hbit3 := bit_three A3 C3' I3
              have haw := HAW.out w34 (below_trans HB02.out HB34.out)
              go_wp2_with (go_at_call 14; refine haw.mono ?_; clear haw; rintro e w40 ⟨he, hb10⟩; obtain rfl := he; have hfin := HFO.out w40 hb10; clear hb10)
              exact hfin
set_option maxRecDepth 100000 in
theorem lifted (os : Os) (started : os.Started) (H : Type) (enc : TypeId × Value → H) :
    ReturnsInHanded {} Try.checked os 8 .any (Rows.histFindsSpec.pre6 enc Try.prog Try.f8 Rows.histFindsRow.domain false) (Rows.histFindsSpec.post enc Try.prog Try.f8 false true false false) := by
  refine returnsInHanded_of_change_sized (C := Try.checked) own started (by kernel_rfl) Try.func8
    (ChangeSpec.witness6 (enc := enc) (C := Try.checked) false ⟨#[], #[.slice none 0 0, .int .u16 0, .int .u32 0], []⟩ 8 (by kernel_rfl) (by kernel_rfl) (by kernel_rfl) (by kernel_rfl)) ?_
  intro W base args ds gs before hval0 hW hcnd hsz0 _
  have hval : ∀ (j : Nat) t v, Try.f8.params[j]? = some t → args[j]? = some v → Value.okWide Try.prog W .any base t v := hval0
  have hW' := hW
  obtain ⟨p, q, hA0, hV, rfl, hfz, hnd⟩ := hW
  have hA : DataW.TrodAll enc Try.prog W 0 (fun _ => true) true Try.f8.params.toList args.toList ds p := hA0
  have hsz : (DataW.weightsEach Try.prog (Try.f8.params.toList ++ []) (ds ++ gs)).all (· ≤ reachBytes) = true := hsz0
  rw [Try.params8] at hA hval hsz
  obtain ⟨v0, vs0, d0, ds0, p0, q0, hargs, rfl, rfl, h0, r0⟩ := trodAll_cons hA
  obtain ⟨v1, vs1, d1, ds1, p1, q1, rfl, rfl, rfl, h1, r1⟩ := trodAll_cons r0
  obtain ⟨v2, vs2, d2, ds2, p2, q2, rfl, rfl, rfl, h2, r2⟩ := trodAll_cons r1
  obtain ⟨rfl, rfl, rfl⟩ := trodAll_nil r2
  obtain rfl : args = #[v0, v1, v2] := by cases args; simp_all
  obtain ⟨rfl, rfl⟩ := trodVars_none hV
  simp only [List.append_nil] at hsz
  have hlt : ∀ x ∈ (p0 ++ (p1 ++ (p2 ++ []))), x.block < W.heap.size := fun x hx => hW'.lt x (by simpa using hx)
  have hw0 : (d0.weights Try.prog 22).all (· ≤ reachBytes) = true := List.all_eq_true.2 fun m hm => List.all_eq_true.1 hsz m (by simp [DataW.weightsEach, hm])
  have hw1 : (d1.weights Try.prog 44).all (· ≤ reachBytes) = true := List.all_eq_true.2 fun m hm => List.all_eq_true.1 hsz m (by simp [DataW.weightsEach, hm])
  have hw2 : (d2.weights Try.prog 35).all (· ≤ reachBytes) = true := List.all_eq_true.2 fun m hm => List.all_eq_true.1 hsz m (by simp [DataW.weightsEach, hm])
  have k0 := h0
  have k1 := h1
  have k2 := h2
  obtain ⟨a0, w0⟩ := open_pasts (hval 0 22 v0 rfl rfl) h0 hw0
  obtain ⟨a1, rfl, rfl, rfl, w1⟩ := open_int Try.underlying44 (hval 1 44 v1 rfl rfl) h1
  obtain ⟨a2, rfl, rfl, rfl, w2⟩ := open_int Try.underlying35 (hval 2 35 v2 rfl rfl) h2
  clear hA0 hval0
  simp only [List.append_nil] at hW'
  refine (walk W v0 a0 a1 a2 w0 w1 w2).mono fun e W' ⟨he, hg⟩ => ?_
  subst he
  exact ⟨_, rfl, ⟨_, _, _, [], (p0 ++ ([] ++ ([] ++ []))), [], hW', (trodAll_cons_mk (shut_bool Try.underlying4 _) trodAll_mk0), (trodAll_cons_mk (Below.trod laidD (by kernel_rfl) (of_decide_eq_true (by kernel_rfl)) k0 hg (fun x hx => hlt x (by simp [hx]))) (trodAll_cons_mk (Below.trod laidD (by kernel_rfl) (of_decide_eq_true (by kernel_rfl)) k1 hg (fun x hx => (nomatch hx))) (trodAll_cons_mk (Below.trod laidD (by kernel_rfl) (of_decide_eq_true (by kernel_rfl)) k2 hg (fun x hx => (nomatch hx))) trodAll_mk0))), rfl,
    hg.frame _, fun h => by cases h⟩⟩
theorem over : Rows.histFindsRow.holds Try.pinned (OpenSpec.ofChange Rows.histFindsSpec) :=
  OpenClaim.holds_of_wide 8 Try.f8 rfl rfl rfl rfl rfl rfl rfl ⟨rfl, rfl, rfl, rfl, rfl⟩ rfl rfl rfl rfl rfl (by kernel_rfl) Try.func8 (by kernel_rfl)
    (of_decide_eq_true (by kernel_rfl)) (by unfold Func.isWrapper; first | (rw [if_pos (by decide +kernel)]; kernel_rfl) | (rw [if_neg (by decide +kernel)]; exact ⟨rfl, rfl⟩))
    (fun os started H enc _ => lifted os started H enc)
theorem proved : Rows.HistFindsSaid :=
  over
#print axioms proved
end Go.Proofs.Ytdlllnkcjfpajaa.histFinds
