/-
  Proved here: the document's reach.
-/
import Derived.Test.YtdlllnkcjfpajaaJq19
namespace Go.Proofs.Ytdlllnkcjfpajaa
open Go.ChangeShapes Go.WideShapes Go.ChangeAt Go.RowKit
set_option linter.unusedVariables false
set_option linter.unusedSimpArgs false
set_option maxRecDepth 20000
open Relation
def ReachD (w : World) (ps : List Hm) (s : Bool) (a : Nat) (e : Ending) (w' : World) : Prop :=
  ∃ (cb : Nat) (bs : List Bool), e = .returned (.slice (some ⟨cb, 0, none⟩) ps.length ps.length) ∧ Row w' cb (bs.map Value.bool).toArray 4 ∧ bs.length = ps.length ∧ (∀ j : Nat, j < ps.length → (bs[j]? = some true ↔ TransGen (StR ps s) a j)) ∧ Below w.heap.size w w' ∧ w.heap.size ≤ cb
theorem set_keep {bs : List Bool} {k : Nat} (m : Nat) (h : bs[k]? = some true) : (bs.set m true)[k]? = some true := by
  by_cases e : m = k
  · rw [e, List.getElem?_set_self (List.getElem?_eq_some_iff.1 h).1]
  · rw [List.getElem?_set_ne e]; exact h
set_option maxHeartbeats 8000000 in
theorem reachd_any {w : World} {v : Value} {ps : List Hm} (hh : Helds w v ps) (hn : ps.length ≤ 12) (a : Nat) (ha : a < ps.length) (s : Bool) :
    Calls Try.prog 26 #[v, .int .i64 (a : Int), .bool s] w fun e w' => ReachD w ps s a e w' := by
  have HFO : Hid (∀ (cb : Nat) (bs : List Bool) w', Row w' cb (bs.map Value.bool).toArray 4 → bs.length = ps.length → (∀ j : Nat, j < ps.length → (bs[j]? = some true ↔ TransGen (StR ps s) a j)) → Below w.heap.size w w' → w.heap.size ≤ cb → ReachD w ps s a (.returned (.slice (some ⟨cb, 0, none⟩) ps.length ps.length)) w') := fun cb bs w' q1 q2 q3 q4 q5 => ⟨cb, bs, rfl, q1, q2, q3, q4, q5⟩
  generalize ReachD w ps s a = PP at HFO ⊢
  obtain ⟨oa, cap, rfl, hcs⟩ := hh.hold
  have HH : Hid (Helds w (.slice oa ps.length cap) ps) := hh
  have HPS : Hid (ps.length ≤ 1000) := by show _ ≤ _; omega
  have HLT : Hid (∀ x y, StR ps s x y → x < ps.length ∧ y < ps.length) := fun x y q => q.lt
  obtain ⟨n, HN⟩ : ∃ n, Hid (ps.length = n) := ⟨_, rfl⟩
  rw [HN.out] at hn ha HH HFO HLT ⊢
  clear hcs hh
  obtain ⟨inf, hi1, hi2, hi3, hi4⟩ := Ii.info_parts info4
  obtain ⟨C0, HC0⟩ : ∃ C0, Hid ((List.replicate n (Value.bool false)).toArray = C0) := ⟨_, rfl⟩
  have hmk : (Instr.makeSlice 66 (.int .i64 (n : Int)) (.int .i64 (n : Int))).run Try.prog w = .ok (.slice (some ⟨w.heap.size, 0, none⟩) n n) (w.alloc (.cells C0 4)) := by
    have := run_makeSlice (P := Try.prog) (w := w) 66 4 inf (.bool false) Try.underlying66 hi1 hi2 .i64 .i64 (n : Int) (n : Int) (by omega) (Int.le_refl _) (by rw [hi3]; simp; omega) (by rw [hi4]; omega) (by omega)
    rw [hi3] at this
    simp only [Int.toNat_natCast] at this
    rw [made_one _ rfl, HC0.out] at this
    exact this
  have r1 : Row (w.alloc (.cells C0 4)) w.heap.size ((List.replicate n false).map Value.bool).toArray 4 := by
    rw [List.map_replicate, HC0.out]; exact Row.new _ _ _
  have b1 : Below w.heap.size w (w.alloc (.cells C0 4)) := (Below.refl _ _).alloc (Nat.le_refl _) _
  have r2 := r1.below (w' := (w.alloc (.cells C0 4)).alloc (.cells #[.int .i64 (a : Int)] 3)) ((Below.refl _ _).alloc (Nat.le_refl _) _) r1.lt
  have b2 : Below w.heap.size w ((w.alloc (.cells C0 4)).alloc (.cells #[.int .i64 (a : Int)] 3)) := b1.alloc b1.size _
  have q2 : Que ((w.alloc (.cells C0 4)).alloc (.cells #[.int .i64 (a : Int)] 3)) w.heap.size (.slice (some ⟨(w.alloc (.cells C0 4)).heap.size, 0, none⟩) 1 1) [(a : Int)] := Que.one (Row.new _ _ _) b1.size
  have hsz : (w.alloc (.cells C0 4)).heap.size = w.heap.size + 1 := Array.size_push ..
  rw [hsz] at q2
  have k0 := Bq.start (StR ps s) n a ha
  have m0 : muB (List.replicate n false) [(a : Int)] ≤ 2 * n + 1 := by simp [muB]
  clear hi1 hi2 hi3 hi4 r1 b1 hsz
  go_enter Try.func26, Try.ntmps26
  go_upto_region 3 with fail
  generalize (w.alloc (.cells C0 4)).alloc (.cells #[.int .i64 (a : Int)] 3) = w2 at r2 b2 q2 ⊢
  obtain ⟨B, HB⟩ : ∃ B, Hid (w.heap.size = B) := ⟨_, rfl⟩
  rw [HB.out] at r2 q2 ⊢
  clear hmk HC0
  go_loopg [8] (2 * n + 1) (fun k p wr => ∃ (bs : List Bool) (W : List Int) (c : Nat), Que wr B p W ∧ Row wr B (bs.map Value.bool).toArray 4 ∧ Bq (StR ps s) n a bs W c n ∧ muB bs W ≤ k ∧ k ≤ 2 * n + 1 ∧ Below w.heap.size w wr)
  case atStart => exact ⟨_, _, n, q2, r2, k0, m0, Nat.le_refl _, b2⟩
  case round =>
    clear q2 r2 k0 m0 b2
    rename World => wr
    obtain ⟨bs, W, c, hQ, hR, hB, hmu, hgk, hb⟩ := hrel
    have HBQ : Hid (Bq (StR ps s) n a bs W c n) := hB
    have HMU : Hid (muB bs W ≤ gk) := hmu
    clear hB hmu
    match W, hQ, HBQ, HMU with
    | [], hQ, HBQ, HMU =>
      obtain ⟨g, off, cap2, cur, rfl, _⟩ := hQ
      have hfin := HFO.out B bs wr hR HBQ.out.len (fun j hj => HBQ.out.done ha HLT.out j hj) hb (by rw [HB.out]; exact Nat.le_refl _)
      clear hR hb
      go_wp2
      exact hfin
    | x :: W, hQ, HBQ, HMU =>
      obtain ⟨g, off, cap2, cur, rfl, h1, h2, h3, h4, h5⟩ := hQ
      have hQ : Que wr B (.slice (some ⟨g, off, none⟩) (W.length + 1) cap2) (x :: W) := ⟨g, off, cap2, cur, rfl, h1, h2, h3, h4, h5⟩
      have hx := hQ.first
      have hQ2 := hQ.tail
      obtain ⟨k, rfl, hk, hr, hB2⟩ := HBQ.out.pop
      have HKR : Hid (k = a ∨ bs[k]? = some true) := hr
      have HB2 : Hid (Bq (StR ps s) n a bs W k 0) := hB2
      have HMU2 : Hid (muB bs W + 1 ≤ gk) := by have := HMU.out; simp [muB] at this ⊢; show _ ≤ _; omega
      have h3 : W.length + 1 ≤ cap2 := h3
      obtain ⟨L, HL⟩ : ∃ L, Hid (W.length = L) := ⟨_, rfl⟩
      rw [List.length_cons, HL.out]
      rw [HL.out] at hQ2 h3
      have e1 : (0 : Int) < ((L + 1 : Nat) : Int) := by omega
      have e2 : (1 : Int) ≤ ((L + 1 : Nat) : Int) := by omega
      have e3 : ((L + 1 : Nat) : Int) ≤ (cap2 : Int) := by omega
      have HQ0 : Hid (cap2 = 1 → Que wr B (.slice (some ⟨g, off, none⟩) 0 0) W) := fun e => by
        have hL0 : W.length = 0 := by have := HL.out; omega
        obtain rfl := List.eq_nil_of_length_eq_zero hL0
        exact ⟨g, off, 0, cur, rfl, h1, h2, Nat.le_refl _, by omega, fun j x h => by simp at h⟩
      have HQ1 : Hid (Que wr B (.slice (some ⟨g, off + 1, none⟩) L (cap2 - 1)) W) := hQ2
      clear hQ hQ2 HBQ HMU hr hB2 h1 h2 h4 h5
      go_upto_region 5 with fail
      go_cut [8] from 22 to 23 (fun p wx => Hid (wx = wr) ∧ Que wr B p W)
      case first =>
        by_cases hc1 : cap2 = 1
        · have hL0 : L = 0 := by omega
          subst hc1 hL0
          go_wp2_with fail
          go_meet
          case rel => exact ⟨by first | exact rfl | exact trivial, HQ0.out (by first | exact trivial | rfl)⟩
        · go_wp2_with fail
          go_meet
          case rel => exact ⟨by first | exact rfl | exact trivial, HQ1.out⟩
      case rest =>
        obtain ⟨hww, hQ⟩ := hcut
        obtain rfl := hww.out
        go_upto_region 7 with fail
        go_loopw [8, 26] (fun p q wz => ∃ (m : Nat) (bs : List Bool) (W : List Int), q = .int .i64 (m : Int) ∧ m ≤ n ∧ Que wz B p W ∧ Row wz B (bs.map Value.bool).toArray 4 ∧ Bq (StR ps s) n a bs W k m ∧ (k = a ∨ bs[k]? = some true) ∧ muB bs W + 1 ≤ gk ∧ Below w.heap.size w wz) (fun _ q _ => 13 - (intOf q).toNat)
        case atStart => exact ⟨0, bs, W, rfl, Nat.zero_le _, hQ, hR, HB2.out, HKR.out, HMU2.out, hb⟩
        case round =>
          clear hQ hR hb HB2 HKR HMU2 HQ0 HQ1 HL e1 e2 e3 h3
          rename World => wz
          obtain ⟨m, bs, W, rfl, hm, hQ, hR, hB, hkr, hmu, hb⟩ := hrel
          have HQ : Hid (Que wz B u8 W) := hQ
          have HR : Hid (Row wz B (bs.map Value.bool).toArray 4) := hR
          have HBm : Hid (Bq (StR ps s) n a bs W k m) := hB
          have HKRm : Hid (k = a ∨ bs[k]? = some true) := hkr
          have HMUm : Hid (muB bs W + 1 ≤ gk) := hmu
          have HBW : Hid (Below w.heap.size w wz) := hb
          by_cases hmn : m < n
          · have hmn' : (m : Int) < (n : Int) := by omega
            have hm0 : (0 : Int) ≤ (m : Int) := by omega
            obtain ⟨b, hbm⟩ : ∃ b, bs[m]? = some b := ⟨_, List.getElem?_eq_getElem (by rw [hB.len]; exact hmn)⟩
            have cB : wz.cell? ⟨B, m, none⟩ = some (.bool b) := by
              rw [cell_of_row _ _ _ _ _ _ hR, List.getElem?_toArray, List.getElem?_map, hbm]; rfl
            have HBM : Hid (bs[m]? = some b) := hbm
            have hde := depends_any (HH.out.keep hb) HPS.out k m (by rw [HN.out]; exact hk) (by rw [HN.out]; exact hmn)
            have HAH : Hid (∀ w5, Below wz.heap.size wz w5 → Calls Try.prog 28 #[.slice oa n cap, .int .i64 (k : Int), .int .i64 (m : Int)] w5 fun e w' => Says w5 (AheR ps k m) e w') := fun w5 hb5 => by
              have := ahead_any ((HH.out.keep HBW.out).keep hb5) HPS.out k m (by rw [HN.out]; exact hk) (by rw [HN.out]; exact hmn)
              exact this
            clear hbm hQ hR hB hkr hmu hb
            cases b with
            | true =>
              clear hde HAH
              go_wp2
              go_roundw
              case rel => exact ⟨m + 1, bs, W, by go_num, by omega, HQ.out, HR.out, HBm.out.skip (Or.inl HBM.out), HKRm.out, HMUm.out, HBW.out⟩
              case measure => simp [intOf]; omega
            | false =>
              by_cases hD : DepR ps k m
              · have hcw := Says.calls_yes hde hD
                have HST : Hid (StR ps s k m) := Or.inl hD
                clear hde hD HAH
                go_upto_region 10 with (go_at_call 27; refine hcw.mono ?_; clear hcw; rintro e w6 ⟨he, hb6⟩; obtain rfl := he)
                have R6 := HR.out.below hb6 HR.out.lt
                have cB6 : w6.cell? ⟨B, m, none⟩ = some (.bool false) := by
                  rw [cell_of_row _ _ _ _ _ _ R6, List.getElem?_toArray, List.getElem?_map, HBM.out]; rfl
                have fz6 : w6.frozen? ⟨B, m, none⟩ = false := row_frozen R6 m
                have o7 : Off (· = B) w6 (w6.setCell ⟨B, m, none⟩ (.bool true)) := Off.of_setCell _ _ _ rfl
                have HR7 : Hid (Row (w6.setCell ⟨B, m, none⟩ (.bool true)) B ((bs.set m true).map Value.bool).toArray 4) := by
                  have := row_set R6 m (.bool true)
                  rw [List.setIfInBounds_toArray, ← List.map_set] at this
                  exact this
                have HQ7 : Hid (Que (w6.setCell ⟨B, m, none⟩ (.bool true)) B u8 W) := (HQ.out.below hb6).off o7 (fun g cs hr e => by
                  have h2 := R6; unfold Row at h2 hr; rw [e, h2] at hr; cases hr)
                have HB7 : Hid (Below w.heap.size w (w6.setCell ⟨B, m, none⟩ (.bool true))) := below_off (below_trans HBW.out hb6) o7 (fun k e => by rw [e, HB.out]; exact Nat.le_refl _)
                clear R6 o7 hb6 cB
                go_upto_region 11 with fail
                clear cB6 fz6
                generalize w6.setCell ⟨B, m, none⟩ (.bool true) = w7 at HR7 HQ7 HB7 ⊢
                have rZ : Row (w7.alloc (.cells #[.int .i64 (m : Int)] 3)) w7.heap.size #[.int .i64 (m : Int)] 3 := Row.new _ _ _
                have b8 : Below w7.heap.size w7 (w7.alloc (.cells #[.int .i64 (m : Int)] 3)) := (Below.refl _ _).alloc (Nat.le_refl _) _
                have HR8 : Hid (Row (w7.alloc (.cells #[.int .i64 (m : Int)] 3)) B ((bs.set m true).map Value.bool).toArray 4) := HR7.out.below b8 HR7.out.lt
                have HB8 : Hid (Below w.heap.size w (w7.alloc (.cells #[.int .i64 (m : Int)] 3))) := below_trans HB7.out b8
                have HAP : Hid (∀ ty, ∃ v' w', (Builtin.append_ #[103, 103] ty #[u8, .slice (some ⟨w7.heap.size, 0, none⟩) 1 1]).run Try.prog (w7.alloc (.cells #[.int .i64 (m : Int)] 3)) = .ok v' w' ∧ Que w' B v' (W ++ [(m : Int)]) ∧ ∃ F : Nat → Prop, Off F (w7.alloc (.cells #[.int .i64 (m : Int)] 3)) w' ∧ ∀ k, F k → B ≤ k ∧ ∃ cs, Row (w7.alloc (.cells #[.int .i64 (m : Int)] 3)) k cs 3) := fun ty => (HQ7.out.below b8).push ty _ _ rZ (Nat.le_of_lt HR8.out.lt) (by have := HMUm.out; unfold muB at this; omega)
                clear rZ b8 HR7 HB7
                go_wp2_with (
                  refine Ii.wpList_copy rfl (.tmp 52) (.tmp 54) 103 rfl u8 (.slice (some ⟨w7.heap.size, 0, none⟩) 1 1) rfl rfl HAP.out ?_
                  clear HAP
                  generalize w7.alloc (.cells #[.int .i64 (m : Int)] 3) = w8 at HR8 HB8
                  rintro v9 w9 ⟨hq9, F, hoff, hF⟩
                  have HQ9 : Hid (Que w9 B v9 (W ++ [(m : Int)])) := hq9
                  have HR9 : Hid (Row w9 B ((bs.set m true).map Value.bool).toArray 4) := HR8.out.off hoff (fun e => by
                    obtain ⟨_, cs, hr⟩ := hF B e
                    have h2 := HR8.out; unfold Row at h2 hr; rw [h2] at hr; cases hr)
                  have HB9 : Hid (Below w.heap.size w w9) := below_off HB8.out hoff (fun k hk => by rw [HB.out]; exact (hF k hk).1)
                  clear hq9 hoff hF HR8 HB8)
                go_roundw
                case rel => exact ⟨m + 1, bs.set m true, W ++ [(m : Int)], by go_num, by omega, HQ9.out, HR9.out, HBm.out.push hmn HKRm.out HBM.out HST.out, HKRm.out.imp id (set_keep m), by have := Bq.mu_push (W := W) HBM.out; have := HMUm.out; omega, HB9.out⟩
                case measure => simp [intOf]; omega
              · have hcw := Says.calls_no hde hD
                have HND : Hid (¬ DepR ps k m) := hD
                clear hde hD
                cases s with
                | false =>
                  have HST : Hid (¬ StR ps false k m) := fun q => by
                    rcases q with q | ⟨q, _⟩
                    · exact HND.out q
                    · cases q
                  clear HAH
                  go_wp2_with (go_at_call 27; refine hcw.mono ?_; clear hcw; rintro e w6 ⟨he, hb6⟩; obtain rfl := he)
                  go_roundw
                  case rel => exact ⟨m + 1, bs, W, by go_num, by omega, HQ.out.below hb6, HR.out.below hb6 HR.out.lt, HBm.out.skip (Or.inr HST.out), HKRm.out, HMUm.out, below_trans HBW.out hb6⟩
                  case measure => simp [intOf]; omega
                | true =>
                  by_cases hA : AheR ps k m
                  · have HST : Hid (StR ps true k m) := Or.inr ⟨rfl, hA⟩
                    replace HAH : Hid (∀ w5, Below wz.heap.size wz w5 → Calls Try.prog 28 #[.slice oa n cap, .int .i64 (k : Int), .int .i64 (m : Int)] w5 fun e w' => e = .returned (.bool true) ∧ Below w5.heap.size w5 w') := fun w5 hb5 => Says.calls_yes (HAH.out w5 hb5) hA
                    clear hA
                    go_upto_region 10 with (first | (go_at_call 27; refine hcw.mono ?_; clear hcw; rintro e w5 ⟨he, hb61⟩; obtain rfl := he; have hcw2 := HAH.out w5 hb61) | (go_at_call 28; refine hcw2.mono ?_; clear hcw2; rintro e w6 ⟨he, hb62⟩; obtain rfl := he; have hb6 := below_trans hb61 hb62))
                    have R6 := HR.out.below hb6 HR.out.lt
                    have cB6 : w6.cell? ⟨B, m, none⟩ = some (.bool false) := by
                      rw [cell_of_row _ _ _ _ _ _ R6, List.getElem?_toArray, List.getElem?_map, HBM.out]; rfl
                    have fz6 : w6.frozen? ⟨B, m, none⟩ = false := row_frozen R6 m
                    have o7 : Off (· = B) w6 (w6.setCell ⟨B, m, none⟩ (.bool true)) := Off.of_setCell _ _ _ rfl
                    have HR7 : Hid (Row (w6.setCell ⟨B, m, none⟩ (.bool true)) B ((bs.set m true).map Value.bool).toArray 4) := by
                      have := row_set R6 m (.bool true)
                      rw [List.setIfInBounds_toArray, ← List.map_set] at this
                      exact this
                    have HQ7 : Hid (Que (w6.setCell ⟨B, m, none⟩ (.bool true)) B u8 W) := (HQ.out.below hb6).off o7 (fun g cs hr e => by
                      have h2 := R6; unfold Row at h2 hr; rw [e, h2] at hr; cases hr)
                    have HB7 : Hid (Below w.heap.size w (w6.setCell ⟨B, m, none⟩ (.bool true))) := below_off (below_trans HBW.out hb6) o7 (fun k e => by rw [e, HB.out]; exact Nat.le_refl _)
                    clear R6 o7 hb6 cB
                    go_upto_region 11 with fail
                    clear cB6 fz6
                    generalize w6.setCell ⟨B, m, none⟩ (.bool true) = w7 at HR7 HQ7 HB7 ⊢
                    have rZ : Row (w7.alloc (.cells #[.int .i64 (m : Int)] 3)) w7.heap.size #[.int .i64 (m : Int)] 3 := Row.new _ _ _
                    have b8 : Below w7.heap.size w7 (w7.alloc (.cells #[.int .i64 (m : Int)] 3)) := (Below.refl _ _).alloc (Nat.le_refl _) _
                    have HR8 : Hid (Row (w7.alloc (.cells #[.int .i64 (m : Int)] 3)) B ((bs.set m true).map Value.bool).toArray 4) := HR7.out.below b8 HR7.out.lt
                    have HB8 : Hid (Below w.heap.size w (w7.alloc (.cells #[.int .i64 (m : Int)] 3))) := below_trans HB7.out b8
                    have HAP : Hid (∀ ty, ∃ v' w', (Builtin.append_ #[103, 103] ty #[u8, .slice (some ⟨w7.heap.size, 0, none⟩) 1 1]).run Try.prog (w7.alloc (.cells #[.int .i64 (m : Int)] 3)) = .ok v' w' ∧ Que w' B v' (W ++ [(m : Int)]) ∧ ∃ F : Nat → Prop, Off F (w7.alloc (.cells #[.int .i64 (m : Int)] 3)) w' ∧ ∀ k, F k → B ≤ k ∧ ∃ cs, Row (w7.alloc (.cells #[.int .i64 (m : Int)] 3)) k cs 3) := fun ty => (HQ7.out.below b8).push ty _ _ rZ (Nat.le_of_lt HR8.out.lt) (by have := HMUm.out; unfold muB at this; omega)
                    clear rZ b8 HR7 HB7
                    go_wp2_with (
                      refine Ii.wpList_copy rfl (.tmp 52) (.tmp 54) 103 rfl u8 (.slice (some ⟨w7.heap.size, 0, none⟩) 1 1) rfl rfl HAP.out ?_
                      clear HAP
                      generalize w7.alloc (.cells #[.int .i64 (m : Int)] 3) = w8 at HR8 HB8
                      rintro v9 w9 ⟨hq9, F, hoff, hF⟩
                      have HQ9 : Hid (Que w9 B v9 (W ++ [(m : Int)])) := hq9
                      have HR9 : Hid (Row w9 B ((bs.set m true).map Value.bool).toArray 4) := HR8.out.off hoff (fun e => by
                        obtain ⟨_, cs, hr⟩ := hF B e
                        have h2 := HR8.out; unfold Row at h2 hr; rw [h2] at hr; cases hr)
                      have HB9 : Hid (Below w.heap.size w w9) := below_off HB8.out hoff (fun k hk => by rw [HB.out]; exact (hF k hk).1)
                      clear hq9 hoff hF HR8 HB8)
                    go_roundw
                    case rel => exact ⟨m + 1, bs.set m true, W ++ [(m : Int)], by go_num, by omega, HQ9.out, HR9.out, HBm.out.push hmn HKRm.out HBM.out HST.out, HKRm.out.imp id (set_keep m), by have := Bq.mu_push (W := W) HBM.out; have := HMUm.out; omega, HB9.out⟩
                    case measure => simp [intOf]; omega
                  · have HST : Hid (¬ StR ps true k m) := fun q => by
                      rcases q with q | ⟨_, q⟩
                      · exact HND.out q
                      · exact hA q
                    replace HAH : Hid (∀ w5, Below wz.heap.size wz w5 → Calls Try.prog 28 #[.slice oa n cap, .int .i64 (k : Int), .int .i64 (m : Int)] w5 fun e w' => e = .returned (.bool false) ∧ Below w5.heap.size w5 w') := fun w5 hb5 => Says.calls_no (HAH.out w5 hb5) hA
                    clear hA
                    go_wp2_with (first | (go_at_call 27; refine hcw.mono ?_; clear hcw; rintro e w5 ⟨he, hb61⟩; obtain rfl := he; have hcw2 := HAH.out w5 hb61) | (go_at_call 28; refine hcw2.mono ?_; clear hcw2; rintro e w6 ⟨he, hb62⟩; obtain rfl := he; have hb6 := below_trans hb61 hb62))
                    go_roundw
                    case rel => exact ⟨m + 1, bs, W, by go_num, by omega, HQ.out.below hb6, HR.out.below hb6 HR.out.lt, HBm.out.skip (Or.inr HST.out), HKRm.out, HMUm.out, below_trans HBW.out hb6⟩
                    case measure => simp [intOf]; omega
          · have hmn' : ¬ (m : Int) < (n : Int) := by omega
            obtain rfl : m = n := by omega
            clear hQ hR hB hkr hmu hb
            go_wp2_with fail
            go_roundg (gk - 1)
            case measure => have := HMUm.out; omega
            case rel => exact ⟨bs, W, k, HQ.out, HR.out, HBm.out, by have := HMUm.out; omega, by omega, HBW.out⟩
end Go.Proofs.Ytdlllnkcjfpajaa
