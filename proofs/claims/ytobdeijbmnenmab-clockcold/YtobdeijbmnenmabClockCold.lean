/-
  ClockCold (P12.4): for every number of frames and every list of calls, as long as there is a cold frame that nobody holds, such a one is given up; and the fixed run comes out.
-/
import Derived.Test.YtobdeijbmnenmabAwk
namespace Go.Proofs.Ytobdeijbmnenmab.clockCold
open Go.ChangeShapes Go.WideShapes Go.ChangeAt Go.RowKit
open Go.Deep
set_option linter.unusedVariables false
set_option linter.unusedSimpArgs false

theorem own : ownKnob Try.prog.godebug = none := by kernel_rfl

theorem acted_length {k i : Int} {b : Bool} {fs : List Fr} {h : Nat} {z : Int} {ok : Bool} {fs' : List Fr} {h' : Nat} (q : Acted k i b fs h z ok fs' h') : fs'.length = fs.length := by
  rcases q with ⟨_, v, rfl, hv, hs⟩ | ⟨_, _, _, rfl, _⟩
  · exact hs.1
  · unfold upd
    split
    · split
      · rw [List.length_set]
      · rfl
    · rfl
theorem k12 {n : Int} (h : 0 ≤ n ∧ n ≤ 255) : ∃ m : Nat, n % 12 = m ∧ m < 12 := ⟨(n % 12).toNat, by omega, by omega⟩
/-- Is there a cold frame that nobody holds? -/
def anyC (fs : List Fr) : Bool := fs.any Fr.cf
theorem same_cold {fs fs' : List Fr} (s : Same fs fs') : fs'.map Fr.cold = fs.map Fr.cold := by
  apply List.ext_getElem?
  intro j
  rw [List.getElem?_map, List.getElem?_map]
  by_cases hj : j < fs.length
  · obtain ⟨y, hy, e, _⟩ := s.2 j _ (List.getElem?_eq_getElem hj)
    rw [hy, List.getElem?_eq_getElem hj]
    simp [e]
  · rw [List.getElem?_eq_none (by rw [s.1]; omega), List.getElem?_eq_none (by omega)]
/-- Such a one is given up. -/
theorem acted_cold {i : Int} {b : Bool} {fs : List Fr} {h : Nat} {z : Int} {ok : Bool} {fs' : List Fr} {h' : Nat} (nos : ∀ (j : Nat) (x : Fr), fs[j]? = some x → x.no = j) (q : Acted 5 i b fs h z ok fs' h') (hc : anyC fs = true) :
    ∃ v : Nat, z = v ∧ ok = true ∧ v < fs.length ∧ (fs'.map Fr.cold).getD v false = true := by
  rcases q with ⟨_, v, rfl, hv, hs⟩ | ⟨q, _⟩
  · obtain ⟨y, hy, hcf⟩ := List.any_eq_true.1 hc
    rcases hv with ⟨A, x, B, e, hA, hx, rfl, rfl, _⟩ | ⟨hn, _⟩ | ⟨hn, _⟩
    · have hm : x ∈ fs := mem_ring.1 (by rw [e]; simp)
      obtain ⟨j, hj, rfl⟩ := List.getElem_of_mem hm
      have e3 := nos j _ (List.getElem?_eq_getElem hj)
      refine ⟨_, rfl, rfl, by rw [e3]; exact hj, ?_⟩
      rw [e3, same_cold hs]
      simp [List.getD, hj, (cf_pins hx).2]
    · have := hn y (mem_ring.2 hy)
      rw [hcf] at this; cases this
    · exact absurd (cf_pins hcf).1 (hn y (mem_ring.2 hy))
  · exact absurd rfl q
/-- What is said of the cold ones behind a call. -/
theorem acted_map {k i : Int} {b : Bool} {fs : List Fr} {h : Nat} {z : Int} {ok : Bool} {fs' : List Fr} {h' : Nat} (q : Acted k i b fs h z ok fs' h') :
    (¬ (0 ≤ i ∧ i < fs.length) ∨ (¬ k = 3 ∧ ¬ k = 4) → fs'.map Fr.cold = fs.map Fr.cold) ∧ (∀ j : Nat, i = j → j < fs.length → (k = 3 → fs'.map Fr.cold = (fs.map Fr.cold).set j b) ∧ (k = 4 → fs'.map Fr.cold = (fs.map Fr.cold).set j false)) := by
  rcases q with ⟨rfl, v, rfl, hv, hs⟩ | ⟨k5, _, _, rfl, _⟩
  · exact ⟨fun _ => same_cold hs, fun j _ _ => ⟨fun q => by omega, fun q => by omega⟩⟩
  · refine ⟨fun q => ?_, fun j hj hl => ?_⟩
    · by_cases hin : 0 ≤ i ∧ i < fs.length
      · rcases q with q | ⟨k3, k4⟩
        · exact absurd hin q
        · obtain ⟨n, rfl⟩ : ∃ n : Nat, i = n := ⟨i.toNat, by omega⟩
          have hn : n < fs.length := by omega
          rw [(upd_in (k := k) (b := b) (List.getElem?_eq_getElem hn)).1, List.map_set]
          have : (upF k b fs[n]).cold = fs[n].cold := by
            unfold upF
            by_cases k0 : k = 0
            · simp [k0]
            by_cases k1 : k = 1
            · simp [k1]
            by_cases k2 : k = 2
            · simp [k2]; split <;> rfl
            · simp [k0, k1, k2, k3, k4]
          rw [this]
          have e2 : (fs.map Fr.cold)[n]? = some fs[n].cold := by simp [hn]
          have := (List.getElem?_eq_some_iff.1 e2).2
          rw [← this]; exact List.set_getElem_self _
      · rw [(upd_out hin).1]
    · subst hj
      rw [(upd_in (k := k) (b := b) (List.getElem?_eq_getElem hl)).1, List.map_set]
      exact ⟨fun q => by subst q; rfl, fun q => by subst q; rfl⟩
theorem info4 : (Try.prog.info? 4).map (fun i => (i.zero, i.size, i.bytes)) = some (some (.bool false), 1, 1) := by kernel_rfl
theorem newF_cold (n : Nat) : (newF n).map Fr.cold = List.replicate n false := by
  apply List.ext_getElem?
  intro j
  unfold newF
  by_cases hj : j < n
  · simp [hj]
  · rw [List.getElem?_eq_none (by simp; omega), List.getElem?_eq_none (by simp; omega)]
set_option maxHeartbeats 2000000 in
set_option maxRecDepth 20000 in
theorem walk (w : World) (nn : Int) (v : Value) (cs : List Call) (wf : (Lit.int .u8 nn).wf = true) (hs : Script w v cs) :
    Calls Try.prog 5 #[.int .u8 nn, v] w fun e w' => e = .returned (.bool true) ∧ Below w.heap.size w w' := by
  have hf := bounds_u8 wf
  obtain ⟨m, hm, hm12⟩ := k12 hf
  have e1 : nn.tmod 12 = m := by rw [Int.tmod_eq_emod_of_nonneg hf.1]; exact hm
  have v1 : IntKind.u8.wrap (m : Int) = m := by rw [IntKind.wrap_u8]; omega
  have v2 : IntKind.i64.wrap (m : Int) = m := by rw [IntKind.wrap_i64]; omega
  have v3 : IntKind.i64.wrap (1 + (m : Int)) = ((m + 1 : Nat) : Int) := by rw [IntKind.wrap_i64]; omega
  have hnew := new_some (m + 1) (by omega) (by omega) w
  obtain ⟨oa, cap, rfl, hlen, hcs⟩ := hs
  obtain ⟨n, HN⟩ : ∃ n, Hid (cs.length = n) := ⟨_, rfl⟩
  rw [HN.out] at hcs hlen ⊢
  have HCS : Hid _ := hcs
  obtain ⟨K, HKK⟩ : ∃ K, Hid (m + 1 = K) := ⟨_, rfl⟩
  rw [HKK.out] at v3 hnew
  have hK1 : 1 ≤ K ∧ K ≤ 12 := by have := HKK.out; omega
  have hKa := hK1.1
  have hKb := hK1.2
  clear hcs hf hm hK1
  obtain ⟨ti, hti, htz, hts, htb⟩ := info_parts info4
  have hz29 := zero29
  go_enter Try.func5, Try.ntmps5
  go_wp2_with (first
    | (go_at_call 8; refine hnew.mono ?_; rintro e w1 ⟨g, a, he, hg, ha, c1, b1⟩; obtain rfl := he; have HG : Hid (w.heap.size ≤ g) := hg; have HA : Hid (w.heap.size ≤ a) := ha; clear hg ha)
    | (at_make; refine wpList_make_full w1 rfl (.tmp 22) (.tmp 22) 40 rfl w1.heap.size 4 ti _ 1 Try.underlying40 hti htz hts .i64 .i64 K K K rfl rfl rfl rfl (by rw [htb]; omega) (by unfold maxLen; omega) (Nat.le_refl _) ?_; intro w0 own0 gr0))
  have hF : Hid (∀ k, two g a k → w.heap.size ≤ k) := fun k hk => by
    rcases hk with rfl | rfl
    · exact HG.out
    · exact HA.out
  have hrow : Row w0 w1.heap.size (bl ((newF K).map Fr.cold)) 4 := by
    rcases own0.2 with ⟨q, _⟩ | ⟨gg, cap', cur, q, _, hr, hc1, hc2, hc3, hc4⟩
    · cases q
    · simp only [Value.slice.injEq, Option.some.injEq, Addr.mk.injEq] at q
      obtain ⟨⟨rfl, _⟩, _, rfl⟩ := q
      have e : cur.toList = ((newF K).map Fr.cold).map Value.bool := by
        rw [newF_cold, List.map_replicate, ← toList_madeCells_one, ← List.take_of_length_le (l := cur.toList) (i := K * 1) (by rw [Array.length_toList, hc3]; omega), hc4]
        simp [Value.cells]
      unfold Row bl
      rw [hr, ← e]
  have b0 : Below w1.heap.size w1 w0 := ⟨gr0.os, gr0.tape, gr0.output, gr0.size, fun k hk => gr0.block k hk (by simp)⟩
  have c0 := c1.below b0
  have B0 := b1.trans (b0.mono b1.size)
  have hCn : ¬ two g a w1.heap.size := fun q => by have := c1.lt q; omega
  have hCw := b1.size
  obtain ⟨C, HC⟩ : ∃ C, Hid (w1.heap.size = C) := ⟨_, rfl⟩
  rw [HC.out] at hrow hCn hCw
  rw [HC.out]
  have HCN : Hid _ := hCn
  have HCW0 : Hid (w.heap.size ≤ C) := hCw
  clear own0 gr0 hCn hCw b0 HC c1 b1
  clear e1 v1 v2 v3 hnew hti htz hts htb
  go_loopw [8] (fun i wr => ∃ (k : Nat) (fs : List Fr) (h : Nat), i = .int .i64 k ∧ k ≤ 80 ∧ Hid (fs.length = K) ∧ CAt wr g a fs h (k : Int) ∧ Row wr C (bl (fs.map Fr.cold)) 4 ∧ Below w.heap.size w wr) (fun c _ => 80 - (intOf c).toNat)
  case atStart => exact ⟨0, _, _, rfl, by omega, newF_length K, c0, hrow, B0⟩
  case round =>
    clear c0 B0 hrow
    obtain ⟨k, fs, h, rfl, hk, HL, D, RC, rb⟩ := hrel
    by_cases hkl : k < n
    · have hkl' : (k : Int) < (n : Int) := by omega
      by_cases hk80 : k < 80
      · have hk80' : (k : Int) < 80 := by omega
        obtain ⟨A, ⟨kd, i, b⟩, hoa, hck, hcell⟩ := HCS.out k hkl
        subst hoa
        obtain ⟨B, HB⟩ : ∃ B, Hid (anyC fs = B) := ⟨_, rfl⟩
        have hcw : ∀ j u, [Value.int .i64 kd, .int .i64 i, .bool b][j]? = some u → wr.cell? ((A.add (k * 3)).add j) = some u := fun j u hj => cell_keep (hcell j u hj) rb
        clear hcell hck
        have z0 : Row (wr.alloc (.cells #[.int .i64 0, .int .i64 0, .bool false] 29)) wr.heap.size #[.int .i64 0, .int .i64 0, .bool false] 29 := Row.new _ _ _
        have r2 : Row ((wr.alloc (.cells #[.int .i64 0, .int .i64 0, .bool false] 29)).setRow wr.heap.size #[.int .i64 kd, .int .i64 i, .bool b]) wr.heap.size #[.int .i64 kd, .int .i64 i, .bool b] 29 := z0.set _
        have b2 : Below wr.heap.size wr ((wr.alloc (.cells #[.int .i64 0, .int .i64 0, .bool false] 29)).setRow wr.heap.size #[.int .i64 kd, .int .i64 i, .bool b]) := below_setRow ((Below.refl _ _).alloc (Nat.le_refl _) _) (Nat.le_refl _) _
        have D0 := D.below b2
        have RC0 := RC.below b2 RC.lt
        have rb0 := rb.trans (b2.mono rb.size)
        have HCL : Hid (C < wr.heap.size) := RC.lt
        have HTW : Hid (∀ q, two g a q → q < wr.heap.size) := fun q hq => D.lt hq
        have tl : Hid (1 = 1) := rfl
        have ts : Hid (1 = 1) := rfl
        go_upto_region 12 with (first
          | (have hh := tl; clear hh tl; refine wpList_load_any rfl 29 (.tmp 36) rfl (A.add (k * 3)) rfl [.int .i64 kd, .int .i64 i, .bool b] _ hcw Try.underlying29 rfl size29 ?_)
          | (have hh := ts; clear hh ts; refine store_cells rfl 29 (.tmp 9) (.tmp 37) rfl wr.heap.size #[.int .i64 kd, .int .i64 i, .bool b] rfl rfl 29 _ z0 3 size29 rfl rfl (by simp [Value.oneCell']) ?_))
        clear D RC z0 hcw b2
        generalize (wr.alloc (.cells #[.int .i64 0, .int .i64 0, .bool false] 29)).setRow wr.heap.size #[.int .i64 kd, .int .i64 i, .bool b] = wx at r2 D0 RC0 rb0 ⊢
        go_loop [10, 11] (fun f j => ∃ (q : Nat), j = .int .i64 q ∧ q ≤ K ∧ f = .bool (anyC (fs.take q))) (fun _ j => K - (intOf j).toNat)
        case atStart => exact ⟨0, rfl, by omega, by rw [List.take_zero]; rfl⟩
        case round =>
          obtain ⟨q, rfl, hq, rfl⟩ := hrel
          by_cases hqK : q < K
          · have hqK' : (q : Int) < (K : Int) := by omega
            obtain ⟨x, hx⟩ := D0.ex (i := q) (by rw [HL.out]; exact hqK)
            have hpi := pins_in D0 q x hx
            have HS : Hid (anyC (fs.take (q + 1)) = (anyC (fs.take q) || x.cf)) := by
              show _ = _
              unfold anyC
              rw [List.take_add_one, hx, List.any_append]
              simp
            have cq := brow_cell RC0 q (by rw [List.length_map, HL.out]; exact hqK)
            have e3 : (fs.map Fr.cold).getD q false = x.cold := by simp [List.getD, hx]
            rw [e3] at cq
            obtain ⟨B0, HB0⟩ : ∃ B0, Hid (anyC (fs.take q) = B0) := ⟨_, rfl⟩
            rw [HB0.out]
            rw [HB0.out] at HS
            obtain ⟨no, sn, cd, p⟩ := x
            simp only at cq hpi
            clear hx e3
            cases B0 with
            | true =>
              go_wp2
              go_round
              case rel => exact ⟨q + 1, by go_num, by omega, by rw [HS.out]; rfl⟩
              case measure => simp [intOf]; omega
            | false =>
              cases cd with
              | false =>
                go_wp2
                go_round
                case rel => exact ⟨q + 1, by go_num, by omega, by rw [HS.out]; rfl⟩
                case measure => simp [intOf]; omega
              | true =>
                go_wp2_with (go_at_call 14; refine hpi.mono ?_; rintro e wb ⟨he, hww⟩; rw [hww]; clear hww wb; obtain rfl := he)
                go_round
                case rel => exact ⟨q + 1, by go_num, by omega, by rw [HS.out]; rfl⟩
                case measure => simp [intOf]; omega
          · have hqK' : ¬ (q : Int) < (K : Int) := by omega
            have hfull : anyC (fs.take q) = B := by rw [← HB.out, List.take_of_length_le (by rw [HL.out]; omega)]
            rw [hfull]
            clear hfull
            have hdo := do_any D0 (by omega) kd i b
            have tm : Hid (1 = 1) := rfl
            go_upto_region 16 with (first
              | (have hh := tm; clear hh tm; refine wpList_load_mid rfl 29 (.tmp 9) rfl wr.heap.size 0 rfl [.int .i64 kd, .int .i64 i, .bool b] _ (range_op r2) Try.underlying29 rfl size29 ?_)
              | (go_at_call 11; refine hdo.mono ?_; clear hdo; rintro e w2 ⟨z, ok, fs', h', he, hact, D2, o2⟩; obtain rfl := he))
            have rb2' : Below w.heap.size w w2 := rb0.trans (o2.below rb0.size hF.out)
            have HL2 : Hid (fs'.length = K) := (acted_length hact).trans HL.out
            have rO : Row w2 wr.heap.size #[.int .i64 kd, .int .i64 i, .bool b] 29 := r2.off o2 (fun q => by have := HTW.out _ q; omega)
            have RC0 : Row w2 C (bl (fs.map Fr.cold)) 4 := RC0.off o2 HCN.out
            obtain ⟨am1, am2⟩ := acted_map hact
            rw [HL.out] at am1 am2
            have HC5 : Hid (kd = 5 → B = true → ∃ v : Nat, z = v ∧ ok = true ∧ v < K ∧ (fs'.map Fr.cold).getD v false = true) := fun q hB => by
              subst q
              have := acted_cold D0.nos hact (by rw [HB.out, hB])
              rw [HL.out] at this; exact this
            clear hact r2 o2 D0 rb0
            have c0 := row_at rO 0 (.int .i64 kd) rfl
            have c1 := row_at rO 1 (.int .i64 i) rfl
            have c2 := row_at rO 2 (.bool b) rfl
            by_cases hi0 : 0 ≤ i
            · by_cases hiK : i < K
              · obtain ⟨j, hj⟩ : ∃ j : Nat, i = j := ⟨i.toNat, by omega⟩
                subst hj
                obtain ⟨HU3', HU4'⟩ := am2 j rfl (by omega)
                have HU3 : Hid _ := HU3'
                have HU4 : Hid _ := HU4'
                have AM : Hid _ := am1
                clear HU3' HU4' am1 am2
                by_cases h3 : kd = 3
                · subst h3
                  have RC3 : Row (w2.setCell ⟨C, j, none⟩ (.bool b)) C (bl (fs'.map Fr.cold)) 4 := by
                    have := brow_setCell RC0 j b
                    rw [← HU3.out rfl] at this
                    exact this
                  have cj := brow_cell RC0 j (by rw [List.length_map, HL.out]; omega)
                  have fj := row_frozen RC0 j
                  have D3 : CAt (w2.setCell ⟨C, j, none⟩ (.bool b)) g a fs' h' ((k : Int) + 1) := D2.off (F := (· = C)) (Off.of_setCell _ _ _ rfl) (fun q hq e => HCN.out (e ▸ hq))
                  have rb3 : Below w.heap.size w (w2.setCell ⟨C, j, none⟩ (.bool b)) := rb2'.trans ((Off.of_setCell (F := (· = C)) w2 ⟨C, j, none⟩ (.bool b) rfl).below rb2'.size (fun q e => by rw [e]; exact HCW0.out))
                  have rO3 : Row (w2.setCell ⟨C, j, none⟩ (.bool b)) wr.heap.size #[.int .i64 3, .int .i64 j, .bool b] 29 := row_setCell_other rO (by have := HCL.out; omega) _ _
                  have d0 := row_at rO3 0 (.int .i64 3) rfl
                  go_wp2
                  go_roundw
                  case rel => exact ⟨k + 1, fs', h', by go_num, by omega, HL2, D3, RC3, rb3⟩
                  case measure => simp [intOf]; omega
                by_cases h4 : kd = 4
                · subst h4
                  have RC3 : Row (w2.setCell ⟨C, j, none⟩ (.bool false)) C (bl (fs'.map Fr.cold)) 4 := by
                    have := brow_setCell RC0 j false
                    rw [← HU4.out rfl] at this
                    exact this
                  have cj := brow_cell RC0 j (by rw [List.length_map, HL.out]; omega)
                  have fj := row_frozen RC0 j
                  have D3 : CAt (w2.setCell ⟨C, j, none⟩ (.bool false)) g a fs' h' ((k : Int) + 1) := D2.off (F := (· = C)) (Off.of_setCell _ _ _ rfl) (fun q hq e => HCN.out (e ▸ hq))
                  have rb3 : Below w.heap.size w (w2.setCell ⟨C, j, none⟩ (.bool false)) := rb2'.trans ((Off.of_setCell (F := (· = C)) w2 ⟨C, j, none⟩ (.bool false) rfl).below rb2'.size (fun q e => by rw [e]; exact HCW0.out))
                  have rO3 : Row (w2.setCell ⟨C, j, none⟩ (.bool false)) wr.heap.size #[.int .i64 4, .int .i64 j, .bool b] 29 := row_setCell_other rO (by have := HCL.out; omega) _ _
                  have d0 := row_at rO3 0 (.int .i64 4) rfl
                  go_wp2
                  go_roundw
                  case rel => exact ⟨k + 1, fs', h', by go_num, by omega, HL2, D3, RC3, rb3⟩
                  case measure => simp [intOf]; omega
                have RC2 : Row w2 C (bl (fs'.map Fr.cold)) 4 := by rw [AM.out (Or.inr ⟨h3, h4⟩)]; exact RC0
                have q3 : (kd == 3) = false := by simpa using h3
                have q4 : (kd == 4) = false := by simpa using h4
                have d3 : decide (kd = 3) = false := by simpa using h3
                have d4 : decide (kd = 4) = false := by simpa using h4
                by_cases h5 : kd = 5
                · subst h5
                  cases B with
                  | false =>
                    go_wp2
                    go_roundw
                    case rel => exact ⟨k + 1, fs', h', by go_num, by omega, HL2, D2, RC2, rb2'⟩
                    case measure => simp [intOf]; omega
                  | true =>
                    obtain ⟨vv, hz, hok, hvl, hcv⟩ := HC5.out rfl rfl
                    subst hz
                    subst hok
                    have hvl' : (vv : Int) < (K : Int) := by omega
                    have cv := brow_cell RC2 vv (by rw [List.length_map, HL2.out]; exact hvl)
                    rw [hcv] at cv
                    go_wp2
                    go_roundw
                    case rel => exact ⟨k + 1, fs', h', by go_num, by omega, HL2, D2, RC2, rb2'⟩
                    case measure => simp [intOf]; omega
                · go_wp2
                  go_roundw
                  case rel => exact ⟨k + 1, fs', h', by go_num, by omega, HL2, D2, RC2, rb2'⟩
                  case measure => simp [intOf]; omega
              · have RC2 : Row w2 C (bl (fs'.map Fr.cold)) 4 := by rw [am1 (Or.inl (fun q => hiK q.2))]; exact RC0
                clear am1 am2
                by_cases h5 : kd = 5
                · subst h5
                  cases B with
                  | false =>
                    go_wp2
                    go_roundw
                    case rel => exact ⟨k + 1, fs', h', by go_num, by omega, HL2, D2, RC2, rb2'⟩
                    case measure => simp [intOf]; omega
                  | true =>
                    obtain ⟨vv, hz, hok, hvl, hcv⟩ := HC5.out rfl rfl
                    subst hz
                    subst hok
                    have hvl' : (vv : Int) < (K : Int) := by omega
                    have cv := brow_cell RC2 vv (by rw [List.length_map, HL2.out]; exact hvl)
                    rw [hcv] at cv
                    go_wp2
                    go_roundw
                    case rel => exact ⟨k + 1, fs', h', by go_num, by omega, HL2, D2, RC2, rb2'⟩
                    case measure => simp [intOf]; omega
                · go_wp2
                  go_roundw
                  case rel => exact ⟨k + 1, fs', h', by go_num, by omega, HL2, D2, RC2, rb2'⟩
                  case measure => simp [intOf]; omega
            · have RC2 : Row w2 C (bl (fs'.map Fr.cold)) 4 := by rw [am1 (Or.inl (fun q => hi0 q.1))]; exact RC0
              clear am1 am2
              by_cases h5 : kd = 5
              · subst h5
                cases B with
                | false =>
                  go_wp2
                  go_roundw
                  case rel => exact ⟨k + 1, fs', h', by go_num, by omega, HL2, D2, RC2, rb2'⟩
                  case measure => simp [intOf]; omega
                | true =>
                  obtain ⟨vv, hz, hok, hvl, hcv⟩ := HC5.out rfl rfl
                  subst hz
                  subst hok
                  have hvl' : (vv : Int) < (K : Int) := by omega
                  have cv := brow_cell RC2 vv (by rw [List.length_map, HL2.out]; exact hvl)
                  rw [hcv] at cv
                  go_wp2
                  go_roundw
                  case rel => exact ⟨k + 1, fs', h', by go_num, by omega, HL2, D2, RC2, rb2'⟩
                  case measure => simp [intOf]; omega
              · go_wp2
                go_roundw
                case rel => exact ⟨k + 1, fs', h', by go_num, by omega, HL2, D2, RC2, rb2'⟩
                case measure => simp [intOf]; omega
      · have hk80' : ¬ (k : Int) < 80 := by omega
        go_wp2_with (go_at_call 9; refine (awake_any _).mono ?_; rintro e w3 ⟨he, b3⟩; obtain rfl := he)
        go_ret
        exact ⟨rfl, rb.trans (b3.mono rb.size)⟩
    · have hkl' : ¬ (k : Int) < (n : Int) := by omega
      go_wp2_with (go_at_call 9; refine (awake_any _).mono ?_; rintro e w3 ⟨he, b3⟩; obtain rfl := he)
      go_ret
      exact ⟨rfl, rb.trans (b3.mono rb.size)⟩

set_option maxRecDepth 100000 in
theorem lifted (os : Os) (started : os.Started) (H : Type) (enc : TypeId × Value → H) :
    ReturnsInHanded {} Try.checked os 5 .any (Rows.clockColdSpec.pre6 enc Try.prog Try.f5 Rows.clockColdRow.domain false) (Rows.clockColdSpec.post enc Try.prog Try.f5 false true false false) := by
  refine returnsInHanded_of_change_sized (C := Try.checked) own started (by kernel_rfl) Try.func5
    (ChangeSpec.witness6 (enc := enc) (C := Try.checked) false ⟨#[], #[.int .u8 0, .slice none 0 0], []⟩ 8 (by kernel_rfl) (by kernel_rfl) (by kernel_rfl) (by kernel_rfl)) ?_
  intro W base args ds gs before hval0 hW hcnd hsz0 _
  have hval : ∀ (j : Nat) t v, Try.f5.params[j]? = some t → args[j]? = some v → Value.okWide Try.prog W .any base t v := hval0
  have hW' := hW
  obtain ⟨p, q, hA0, hV, rfl, hfz, hnd⟩ := hW
  have hA : DataW.TrodAll enc Try.prog W 0 (fun _ => true) true Try.f5.params.toList args.toList ds p := hA0
  have hsz : (DataW.weightsEach Try.prog (Try.f5.params.toList ++ []) (ds ++ gs)).all (· ≤ reachBytes) = true := hsz0
  rw [Try.params5] at hA hval hsz
  obtain ⟨v0, vs0, d0, ds0, p0, q0, hargs, rfl, rfl, h0, r0⟩ := trodAll_cons hA
  obtain ⟨v1, vs1, d1, ds1, p1, q1, rfl, rfl, rfl, h1, r1⟩ := trodAll_cons r0
  obtain ⟨rfl, rfl, rfl⟩ := trodAll_nil r1
  obtain rfl : args = #[v0, v1] := by cases args; simp_all
  obtain ⟨rfl, rfl⟩ := trodVars_none hV
  simp only [List.append_nil] at hsz
  have hlt : ∀ x ∈ (p0 ++ (p1 ++ [])), x.block < W.heap.size := fun x hx => hW'.lt x (by simpa using hx)
  have hw0 : (d0.weights Try.prog 5).all (· ≤ reachBytes) = true := List.all_eq_true.2 fun m hm => List.all_eq_true.1 hsz m (by simp [DataW.weightsEach, hm])
  have hw1 : (d1.weights Try.prog 22).all (· ≤ reachBytes) = true := List.all_eq_true.2 fun m hm => List.all_eq_true.1 hsz m (by simp [DataW.weightsEach, hm])
  have k0 := h0
  have k1 := h1
  obtain ⟨a0, rfl, rfl, rfl, w0⟩ := open_int Try.underlying5 (hval 0 5 v0 rfl rfl) h0
  obtain ⟨a1, w1⟩ := open_calls (hval 1 22 v1 rfl rfl) h1 hw1
  clear hA0 hval0
  simp only [List.append_nil] at hW'
  refine (walk W a0 v1 a1 w0 w1).mono fun e W' ⟨he, hg⟩ => ?_
  subst he
  exact ⟨_, rfl, ⟨_, _, _, [], ([] ++ (p1 ++ [])), [], hW', (trodAll_cons_mk (shut_bool Try.underlying4 _) trodAll_mk0), (trodAll_cons_mk (Below.trod laidOut (by kernel_rfl) (of_decide_eq_true (by kernel_rfl)) k0 hg (fun x hx => (nomatch hx))) (trodAll_cons_mk (Below.trod laidOut (by kernel_rfl) (of_decide_eq_true (by kernel_rfl)) k1 hg (fun x hx => hlt x (by simp [hx]))) trodAll_mk0)), rfl,
    hg.frame _, fun h => by cases h⟩⟩

theorem over : Rows.clockColdRow.holds Try.pinned (OpenSpec.ofChange Rows.clockColdSpec) :=
  OpenClaim.holds_of_wide 5 Try.f5 rfl rfl rfl rfl rfl rfl rfl ⟨rfl, rfl, rfl, rfl, rfl⟩ rfl rfl rfl rfl rfl (by kernel_rfl) Try.func5 (by kernel_rfl)
    (of_decide_eq_true (by kernel_rfl)) (by unfold Func.isWrapper; first | (rw [if_pos (by decide +kernel)]; kernel_rfl) | (rw [if_neg (by decide +kernel)]; exact ⟨rfl, rfl⟩))
    (fun os started H enc _ => lifted os started H enc)

/-- The statement. -/
theorem proved : Rows.ClockColdSaid :=
  over
#print axioms proved
end Go.Proofs.Ytobdeijbmnenmab.clockCold
