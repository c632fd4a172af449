/-
  OraclePlays (P14.1 to P14.4): for every first and greatest timestamp and every list of calls, what an oracle is asked, one call behind the other, is answered as the document says; and the fixed run comes out.
-/
import Derived.Test.YtmnbfcmamhinbaaOrh
namespace Go.Proofs.Ytmnbfcmamhinbaa.oraclePlays
open Go.ChangeShapes Go.WideShapes Go.ChangeAt Go.RowKit
open Go.Deep
set_option linter.unusedVariables false
set_option linter.unusedSimpArgs false

theorem own : ownKnob Try.prog.godebug = none := by kernel_rfl

set_option maxHeartbeats 16000000 in
set_option maxRecDepth 20000 in
theorem walk (w : World) (last0 max : Int) (vs : Value) (cs : List Call) (wf0 : (Lit.int .u32 last0).wf = true) (wf1 : (Lit.int .u32 max).wf = true) (hs : Script w vs cs) : Calls Try.prog 3 #[.int .u32 last0, .int .u32 max, vs] w fun e w' => e = .returned (.bool true) ∧ Below w.heap.size w w' := by
  have l0 := wf_u4 wf0
  have m0 := wf_u4 wf1
  clear wf0 wf1
  obtain ⟨oa, cap0, rfl, hlen, hcs⟩ := hs
  obtain ⟨m, HN⟩ : ∃ m, Hid (cs.length = m) := ⟨_, rfl⟩
  rw [HN.out] at hcs hlen ⊢
  have HCS : Hid _ := hcs
  clear hcs
  by_cases hgt : last0 > max
  · have hnew := new_none last0 max (by omega) w
    have H9 := awake_any w
    go_enter Try.func3, Try.ntmps3
    go_wp2_with (first
      | (go_at_call 9; refine hnew.mono ?_; clear hnew; rintro e wb ⟨he, hww⟩; rw [hww]; clear hww wb; obtain rfl := he)
      | (go_at_call 10; refine H9.mono ?_; clear H9; rintro e w2 ⟨he, b2⟩; obtain rfl := he))
    go_ret
    exact ⟨rfl, b2⟩
  have hnew := new_some last0 max l0.1 (by omega) m0.2 w
  have hz33 := zero33
  go_enter Try.func3, Try.ntmps3
  go_upto_block 0 with (go_at_call 9; refine hnew.mono ?_; clear hnew; rintro e w1 ⟨g, q, he, hg, hm, c1, b1⟩; obtain rfl := he; have HG : Hid (w.heap.size ≤ g) := hg; have HMM : Hid (w.heap.size ≤ q) := hm; clear hg hm)
  have hF : Hid (∀ k, two g q k → w.heap.size ≤ k) := fun k hk => by
    rcases hk with rfl | rfl
    · exact HG.out
    · exact HMM.out
  obtain ⟨r, HRR⟩ : ∃ r, Hid (w1.heap.size = r) := ⟨_, rfl⟩
  have HGR : Hid (∀ k, two g q k → ¬ r ≤ k) := fun k hk e => by have := c1.lt hk; rw [HRR.out] at this; omega
  have HRW : Hid (w.heap.size ≤ r) := by show _ ≤ _; rw [← HRR.out]; exact b1.size
  have rq : Row (w1.alloc (.cells #[.int .u32 last0, .int .u32 max, .slice none 0 0] 30)) w1.heap.size #[.int .u32 last0, .int .u32 max, .slice none 0 0] 30 := Row.new _ _ _
  have bq : Below w1.heap.size w1 (w1.alloc (.cells #[.int .u32 last0, .int .u32 max, .slice none 0 0] 30)) := (Below.refl _ _).alloc (Nat.le_refl _) _
  have c0 := c1.below bq
  have rb0 := b1.trans (bq.mono b1.size)
  rw [HRR.out] at rq ⊢
  have q0 : RfAt (w1.alloc (.cells #[.int .u32 last0, .int .u32 max, .slice none 0 0] 30)) r (.slice none 0 0) last0 max [] := { row := rq, own := ⟨rfl, Or.inl ⟨rfl, rfl⟩⟩, small := by simp, nums := fun i o h => by simp at h }
  clear c1 b1 rq bq
  go_wp2_with fail
  go_loopw [9] (fun i wr => ∃ (k : Nat) (last : Int) (T : List Tx.O) (v : Value), i = .int .i64 k ∧ k ≤ 60 ∧ T.length ≤ k ∧ OAt wr g q last max (T.length : Int) (lv T) ∧ RfAt wr r v last max T ∧ Below w.heap.size w wr) (fun i _ => 60 - (intOf i).toNat)
  case atStart => exact ⟨0, last0, [], _, rfl, by omega, by simp, c0, q0, rb0⟩
  case round =>
    clear c0 q0 rb0
    obtain ⟨k, last, T, v, rfl, hk, hTk, C, Q, rb⟩ := hrel
    by_cases hkl : k < m
    · have hkl' : (k : Int) < (m : Int) := by omega
      by_cases hk60 : k < 60
      · have hk60' : (k : Int) < 60 := by omega
        obtain ⟨A, ⟨kd, n⟩, hoa, hck, hok, hcell⟩ := HCS.out k hkl
        subst hoa
        have hcw : ∀ j u, [Value.int .i64 kd, .int .u64 n][j]? = some u → wr.cell? ((A.add (k * 2)).add j) = some u := fun j u hj => cell_keep (hcell j u hj) rb
        clear hcell hck
        have z0 : Row (wr.alloc (.cells #[.int .i64 0, .int .u64 0] 33)) wr.heap.size #[.int .i64 0, .int .u64 0] 33 := Row.new _ _ _
        have rO : Row ((wr.alloc (.cells #[.int .i64 0, .int .u64 0] 33)).setRow wr.heap.size #[.int .i64 kd, .int .u64 n]) wr.heap.size #[.int .i64 kd, .int .u64 n] 33 := z0.set _
        have b2 : Below wr.heap.size wr ((wr.alloc (.cells #[.int .i64 0, .int .u64 0] 33)).setRow wr.heap.size #[.int .i64 kd, .int .u64 n]) := below_setRow ((Below.refl _ _).alloc (Nat.le_refl _) _) (Nat.le_refl _) _
        have c2 := C.below b2
        have q2 := Q.below b2
        have rb2 := rb.trans (b2.mono rb.size)
        have k0 := row_at rO 0 (.int .i64 kd) rfl
        have k1 := row_at rO 1 (.int .u64 n) rfl
        have d0 := row_at q2.row 0 _ rfl
        have hn0 := (wf_u hok).1
        have hcv := conv_u n hn0
        have HTW : Hid (∀ j, two g q j → j < wr.heap.size) := fun j hj => C.lt hj
        clear C Q b2 hn0
        have HAT : Hid (∀ w', RfAt w' r v last max T → Calls Try.prog 11 #[.pointer (some ⟨r, 0, none⟩), .int .u64 n] w' fun e w2 => e = .returned (.int .i64 (atI T n)) ∧ w2 = w') := fun w' c' => rat_any c' n
        have HNX : Hid (∀ w', OAt w' g q last max (T.length : Int) (lv T) → Calls Try.prog 12 #[.pointer (some ⟨g, 0, none⟩)] w' fun e w2 => e = .returned (.tuple #[.int .u32 (nextV last max), .int .i64 (nextE last max)]) ∧ Below w'.heap.size w' w2) := fun w' c' => next_any c'
        have HST : Hid (∀ w', OAt w' g q last max (T.length : Int) (lv T) → Calls Try.prog 13 #[.pointer (some ⟨g, 0, none⟩), .int .u64 n] w' fun e w2 => e = .returned (.tuple #[.int .u32 (startL (lv T) n), .bool (hasL (lv T) n)]) ∧ w2 = w') := fun w' c' => start_any c' n hok
        have tl : Hid (1 = 1) := rfl
        have ts : Hid (1 = 1) := rfl
        obtain ⟨X, HXX⟩ : ∃ X, Hid (wr.heap.size = X) := ⟨_, rfl⟩
        go_upto_region 13 with (first
          | (have hh := tl; clear hh tl; refine wpList_load_any rfl 33 (.tmp 53) rfl (A.add (k * 2)) rfl [.int .i64 kd, .int .u64 n] _ hcw Try.underlying33 rfl size33 ?_)
          | (have hh := ts; clear hh ts; refine store_cells rfl 33 (.tmp 10) (.tmp 54) rfl wr.heap.size #[.int .i64 kd, .int .u64 n] rfl rfl 33 _ z0 2 size33 rfl rfl (by simp [Value.oneCell']) ?_)
          | (go_at_call 11; refine (HAT.out _ q2).mono ?_; clear HAT; rintro e wb ⟨he, hww⟩; rw [hww]; clear hww wb; obtain rfl := he)
          | (go_at_call 12; refine (HNX.out _ c2).mono ?_; clear HNX; rintro e wn ⟨he, bn⟩; obtain rfl := he; have c2n := c2.below bn; have q2n := q2.below bn; have rb2n := rb2.trans (bn.mono rb2.size); have rOn := rO.below bn rO.lt; clear c2 q2 rb2 rO bn; have c2 := c2n; have q2 := q2n; have rb2 := rb2n; have rO := rOn; clear c2n q2n rb2n rOn; have k0 := row_at rO 0 (.int .i64 kd) rfl; have k1 := row_at rO 1 (.int .u64 n) rfl; have d0 := row_at q2.row 0 _ rfl))
        have HXT : Hid (∀ j, two g q j → ¬ j = wr.heap.size ∧ True) := fun j hj => ⟨fun e => by have := HTW.out j hj; omega, trivial⟩
        go_cut [12, 13, 98] from 41 to 235 (fun x y b wx => x = .int .u32 (nextV last max) ∧ y = .int .i64 (nextE last max) ∧ b = .bool false ∧ wx = wn)
        case first =>
          have lo := c2.lo
          by_cases hq : last = max
          · as_aux_lemma =>
            subst hq
            have e1 : nextV last last = 0 := if_pos rfl
            have e2 : nextE last last = 8 := if_pos rfl
            rw [e1, e2]
            clear lo
            have HE : Hid _ := And.intro e1 e2
            clear e1 e2
            go_wp2_with fail
            go_meet
            case rel => exact ⟨by rw [HE.out.1], by rw [HE.out.2], rfl, rfl⟩
          · as_aux_lemma =>
            have hlm : last < max := by omega
            have e1 : nextV last max = last + 1 := if_neg hq
            have e2 : nextE last max = 0 := if_neg hq
            rw [e1, e2]
            have hw1 : IntKind.u32.wrap (last + 1) = last + 1 := by rw [IntKind.wrap_u32]; omega
            have HE : Hid _ := And.intro e1 e2
            clear lo e1 e2
            go_wp2_with fail
            go_meet
            case rel => exact ⟨by rw [HE.out.1], by rw [HE.out.2], rfl, rfl⟩
        case rest =>
          obtain ⟨rfl, rfl, rfl, rfl⟩ := hcut
          go_upto_region 16 with (go_at_call 13; refine (HST.out _ c2).mono ?_; clear HST; rintro e wb ⟨he, hww⟩; rw [hww]; clear hww wb; obtain rfl := he)
          go_cut [11, 14, 15, 132] from 41 to 235 (fun x y z b wx => x = .int .i64 (atI T n) ∧ b = .bool false ∧ wx = wc)
          case first =>
            rcases hat : atT T n with _ | i
            · as_aux_lemma =>
              obtain ⟨hst, hha, hai⟩ := at_none hat
              rw [hst, hha, hai]
              have HE : Hid _ := hai
              clear hat hst hha hai
              go_wp2_with fail
              go_meet
              case rel => exact ⟨by rw [HE.out], rfl, rfl⟩
            · as_aux_lemma =>
              obtain ⟨s, hTi, hst, hha, hai⟩ := at_some c2.rising hat
              have hlt : i < T.length := (List.getElem?_eq_some_iff.1 hTi).1
              obtain ⟨b, cap, hv, _⟩ := q2.own.blk (by omega)
              subst hv
              have s1 := (q2.own.cell hTi 1 _ rfl).1
              have s3 := row_at q2.row 2 _ rfl
              obtain ⟨N, HNN⟩ : ∃ N, Hid (T.length = N) := ⟨_, rfl⟩
              rw [HNN.out] at s3 hlt
              rw [hst, hha, hai]
              have i1 : (0 : Int) ≤ (i : Int) := by omega
              have i2 : (i : Int) < (N : Int) := by omega
              have i3 : (i : Int) ≥ 0 := by omega
              have HE : Hid _ := hai
              clear hat hst hha hai hTi
              go_wp2_with fail
              go_meet
              case rel => exact ⟨by rw [HE.out], rfl, rfl⟩
          case rest =>
            obtain ⟨rfl, rfl, rfl⟩ := hcut
            go_upto_block 2 with fail
            go_cut [11, 12, 16, 17, 18, 19, 20, 21, 22, 23] from 41 to 235 (fun b1 b2 a1 a2 a3 a4 a5 a6 a7 a8 wx => ∃ (T2 : List Tx.O) (v2 : Value) (last2 : Int), OAt wx g q last2 max (T2.length : Int) (lv T2) ∧ RfAt wx r v2 last2 max T2 ∧ Below w.heap.size w wx ∧ T2.length ≤ k + 1)
            case first =>
              by_cases h0 : kd = 0
              · subst h0
                by_cases hs : (lv T).length < 8
                · as_aux_lemma =>
                    have hb := begin_some c2 hs (by omega)
                    have HRB : Hid (∀ w', RfAt w' r v last max T → Calls Try.prog 15 #[.pointer (some ⟨r, 0, none⟩)] w' fun e w2 => RBegan w' r last max T e w2) := fun w' c' => rbegin_some c' hs (by omega)
                    obtain ⟨N, HNN⟩ : ∃ N, Hid (T.length = N) := ⟨_, rfl⟩
                    unfold BeganAt at hb
                    rw [HNN.out] at hb
                    go_wp2_with (first
                      | (go_at_call 14; refine hb.mono ?_; clear hb; rintro e w3 ⟨he, c3, o3⟩; obtain rfl := he; have q3 := q2.off o3 (fun j hj e => HGR.out j e hj); have rb3 := rb2.trans (o3.below rb2.size hF.out); clear o3 c2 q2 rb2)
                      | (go_at_call 15; refine (HRB.out _ q3).mono ?_; clear HRB; rintro e w4 ⟨he, v4, q4, o4⟩; rw [HNN.out] at he q4; obtain rfl := he; have c4 := c3.off o4 (fun j hj e => HGR.out j hj e); have rb4 := rb3.trans (o4.below rb3.size (fun j e => Nat.le_trans HRW.out e)); clear c3 q3 rb3 o4))
                    go_meet
                    case rel =>
                      refine ⟨T ++ [⟨(N : Int) + 1, last, true⟩], v4, last, ?_, q4, rb4, ?_⟩
                      · have e1 : ((T ++ [(⟨(N : Int) + 1, last, true⟩ : Tx.O)]).length : Int) = (N : Int) + 1 := by rw [List.length_append, HNN.out]; simp
                        have e2 : lv (T ++ [⟨(N : Int) + 1, last, true⟩]) = lv T ++ [((N : Int) + 1, last)] := by rw [lv_append]; rfl
                        rw [e1, e2]; exact c4
                      · rw [List.length_append]; simp; omega
                · as_aux_lemma =>
                    have hb := begin_none c2 hs
                    have HRB : Hid (∀ w', RfAt w' r v last max T → Calls Try.prog 15 #[.pointer (some ⟨r, 0, none⟩)] w' fun e w2 => e = .returned (.tuple #[.int .u64 0, .int .u32 0, .int .i64 10]) ∧ Below w'.heap.size w' w2) := fun w' c' => rbegin_none c' hs
                    go_wp2_with (first
                      | (go_at_call 14; refine hb.mono ?_; clear hb; rintro e wb ⟨he, hww⟩; rw [hww]; clear hww wb; obtain rfl := he)
                      | (go_at_call 15; refine (HRB.out _ q2).mono ?_; clear HRB; rintro e w4 ⟨he, b4⟩; obtain rfl := he; have c4 := c2.below b4; have q4 := q2.below b4; have rb4 := rb2.trans (b4.mono rb2.size); clear c2 q2 rb2 b4))
                    go_meet
                    case rel => exact ⟨T, v, last, c4, q4, rb4, by omega⟩
              by_cases h1 : kd = 1
              · subst h1
                have hb := end_any c2 n hok
                rcases hat : atT T n with _ | i
                · as_aux_lemma =>
                    obtain ⟨_, hha, hai⟩ := at_none hat
                    have e9 : endE (lv T) n = 9 := by unfold endE; rw [hha]; rfl
                    have eL : endL (lv T) n = lv T := List.filter_eq_self.2 fun p hp => by
                      have := List.any_eq_false.1 hha p hp
                      simpa using this
                    rw [e9, eL] at hb
                    rw [hai]
                    clear hat hha hai e9 eL
                    go_wp2_with (go_at_call 16; refine hb.mono ?_; clear hb; rintro e w3 ⟨he, c3, o3⟩; obtain rfl := he)
                    go_meet
                    case rel => exact ⟨T, v, last, c3, q2.off o3 (fun j hj e => HGR.out j e hj), rb2.trans (o3.below rb2.size hF.out), by omega⟩
                · as_aux_lemma =>
                    obtain ⟨s, hTi, _, hha, hai⟩ := at_some c2.rising hat
                    have e9 : endE (lv T) n = 0 := by unfold endE; rw [hha]; rfl
                    have hlt : i < T.length := (List.getElem?_eq_some_iff.1 hTi).1
                    obtain ⟨b, cap, hv, _⟩ := q2.own.blk (by omega)
                    subst hv
                    obtain ⟨N, HNN⟩ : ∃ N, Hid (T.length = N) := ⟨_, rfl⟩
                    have HEL : Hid (lv (T.set i ⟨n, s, false⟩) = endL (lv T) n) := lv_ended q2.nums hTi
                    have HQE : Hid (∀ w', RfAt w' r (.slice (some ⟨b, 0, none⟩) N cap) last max T → RfAt (w'.setCell ⟨b, i * 3 + 2, none⟩ (.bool false)) r (.slice (some ⟨b, 0, none⟩) N cap) last max (T.set i ⟨n, s, false⟩) ∧ Off (fun k => r ≤ k) w' (w'.setCell ⟨b, i * 3 + 2, none⟩ (.bool false))) := fun w' c' => c'.ended hTi
                    have HCL : Hid (∀ w', RfAt w' r (.slice (some ⟨b, 0, none⟩) N cap) last max T → w'.cell? ⟨b, i * 3 + 2, none⟩ = some (.bool true) ∧ w'.frozen? ⟨b, i * 3 + 2, none⟩ = false ∧ w'.cell? ⟨r, 2, none⟩ = some (.slice (some ⟨b, 0, none⟩) N cap)) := fun w' c' => ⟨(c'.own.cell hTi 2 _ rfl).1, (c'.own.cell hTi 2 _ rfl).2, row_at c'.row 2 _ rfl⟩
                    rw [HNN.out] at q2 hlt
                    rw [e9] at hb
                    rw [hai]
                    have i1 : (0 : Int) ≤ (i : Int) := by omega
                    have i2 : (i : Int) < (N : Int) := by omega
                    have i3 : (i : Int) ≥ 0 := by omega
                    clear hat hha hai e9 hTi
                    go_wp2_with (go_at_call 16; refine hb.mono ?_; clear hb; rintro e w3 ⟨he, c3, o3⟩; obtain rfl := he; have q3 := q2.off o3 (fun j hj e => HGR.out j e hj); have rb3 := rb2.trans (o3.below rb2.size hF.out); clear o3 c2 q2 rb2; obtain ⟨s1, s2, s3⟩ := HCL.out _ q3)
                    go_meet
                    case rel =>
                      obtain ⟨q4, o4⟩ := HQE.out _ q3
                      refine ⟨T.set i ⟨n, s, false⟩, _, last, ?_, q4, rb3.trans (o4.below rb3.size (fun j e => Nat.le_trans HRW.out e)), by rw [List.length_set]; omega⟩
                      rw [List.length_set, HEL.out]
                      exact c3.off o4 (fun j hj e => HGR.out j hj e)
              by_cases h23 : kd = 2 ∨ kd = 3
              · obtain ⟨ts, HTS⟩ : ∃ ts, Hid (ts = if kd = 3 then nextV last max else n % 4294967296) := ⟨_, rfl⟩
                by_cases ho : okTs last max ts
                · have hp := publish_yes c2 ts ho
                  have hlm : last < max := by have := c2.lo; have := ho.1; omega
                  have hts : ts = last + 1 := ho.2
                  have HTQ : Hid _ := hts
                  have hw1 : IntKind.u32.wrap (last + 1) = ts := by have := c2.lo; rw [IntKind.wrap_u32, hts]; omega
                  have f0 := row_frozen q2.row 0
                  clear ho hts
                  have hset : ∀ w', RfAt w' r v last max T → RfAt (w'.setCell ⟨r, 0, none⟩ (.int .u32 ts)) r v ts max T ∧ Off (fun k => r ≤ k) w' (w'.setCell ⟨r, 0, none⟩ (.int .u32 ts)) := fun w' c' => ⟨{ c' with row := row_set c'.row 0 _, own := c'.own.other r 0 _ (by omega) }, Off.of_setCell _ _ _ (Nat.le_refl _)⟩
                  have HSET : Hid _ := hset
                  clear hset
                  rcases h23 with h2 | h3
                  · as_aux_lemma =>
                      subst h2
                      have htn : n % 4294967296 = ts := by have := HTS.out; simp at this; exact this.symm
                      rw [htn] at hcv
                      go_wp2_with (go_at_call 17; refine hp.mono ?_; clear hp; rintro e w3 ⟨he, c3, o3⟩; obtain rfl := he; have q3 := q2.off o3 (fun j hj e => HGR.out j e hj); have rb3 := rb2.trans (o3.below rb2.size hF.out); have rO3 := rO.off o3 (fun e => by exact (HXT.out _ e).1 rfl); have kk0 := row_at rO3 0 (.int .i64 2) rfl; clear o3 c2 q2 rb2; have d3 := row_at q3.row 0 _ rfl; have f3 := row_frozen q3.row 0)
                      go_meet
                      case rel =>
                        obtain ⟨q4, o4⟩ := HSET.out _ q3
                        exact ⟨T, v, ts, c3.off o4 (fun j hj e => HGR.out j hj e), q4, rb3.trans (o4.below rb3.size (fun j e => Nat.le_trans HRW.out e)), by omega⟩
                  · as_aux_lemma =>
                      subst h3
                      have htn : nextV last max = ts := by have := HTS.out; simp at this; exact this.symm
                      go_wp2_with (go_at_call 17; refine hp.mono ?_; clear hp; rintro e w3 ⟨he, c3, o3⟩; obtain rfl := he; have q3 := q2.off o3 (fun j hj e => HGR.out j e hj); have rb3 := rb2.trans (o3.below rb2.size hF.out); have rO3 := rO.off o3 (fun e => by exact (HXT.out _ e).1 rfl); have kk0 := row_at rO3 0 (.int .i64 3) rfl; clear o3 c2 q2 rb2; have d3 := row_at q3.row 0 _ rfl; have f3 := row_frozen q3.row 0)
                      go_meet
                      case rel =>
                        obtain ⟨q4, o4⟩ := HSET.out _ q3
                        exact ⟨T, v, ts, c3.off o4 (fun j hj e => HGR.out j hj e), q4, rb3.trans (o4.below rb3.size (fun j e => Nat.le_trans HRW.out e)), by omega⟩
                · have hp := publish_no c2 ts ho
                  have HO : Hid _ := ho
                  clear ho
                  have HNT : Hid (last < max → ¬ ts = last + 1) := fun a b => HO.out ⟨by omega, b⟩
                  rcases h23 with h2 | h3
                  · as_aux_lemma =>
                      subst h2
                      have htn : n % 4294967296 = ts := by have := HTS.out; simp at this; exact this.symm
                      rw [htn] at hcv
                      by_cases hlm : last < max
                      · have hne := HNT.out hlm
                        have hw1 : IntKind.u32.wrap (last + 1) = last + 1 := by have := c2.lo; rw [IntKind.wrap_u32]; omega
                        go_wp2_with (go_at_call 17; refine hp.mono ?_; clear hp; rintro e w3 ⟨he, b3⟩; obtain rfl := he; have c3 := c2.below b3; have q3 := q2.below b3; have rb3 := rb2.trans (b3.mono rb2.size); have rO3 := rO.below b3 rO.lt; have kk0 := row_at rO3 0 (.int .i64 2) rfl; clear b3 c2 q2 rb2; have d3 := row_at q3.row 0 _ rfl)
                        go_meet
                        case rel => exact ⟨T, v, last, c3, q3, rb3, by omega⟩
                      · go_wp2_with (go_at_call 17; refine hp.mono ?_; clear hp; rintro e w3 ⟨he, b3⟩; obtain rfl := he; have c3 := c2.below b3; have q3 := q2.below b3; have rb3 := rb2.trans (b3.mono rb2.size); have rO3 := rO.below b3 rO.lt; have kk0 := row_at rO3 0 (.int .i64 2) rfl; clear b3 c2 q2 rb2; have d3 := row_at q3.row 0 _ rfl)
                        go_meet
                        case rel => exact ⟨T, v, last, c3, q3, rb3, by omega⟩
                  · as_aux_lemma =>
                      subst h3
                      have htn : nextV last max = ts := by have := HTS.out; simp at this; exact this.symm
                      by_cases hlm : last < max
                      · have hne := HNT.out hlm
                        have hw1 : IntKind.u32.wrap (last + 1) = last + 1 := by have := c2.lo; rw [IntKind.wrap_u32]; omega
                        go_wp2_with (go_at_call 17; refine hp.mono ?_; clear hp; rintro e w3 ⟨he, b3⟩; obtain rfl := he; have c3 := c2.below b3; have q3 := q2.below b3; have rb3 := rb2.trans (b3.mono rb2.size); have rO3 := rO.below b3 rO.lt; have kk0 := row_at rO3 0 (.int .i64 3) rfl; clear b3 c2 q2 rb2; have d3 := row_at q3.row 0 _ rfl)
                        go_meet
                        case rel => exact ⟨T, v, last, c3, q3, rb3, by omega⟩
                      · go_wp2_with (go_at_call 17; refine hp.mono ?_; clear hp; rintro e w3 ⟨he, b3⟩; obtain rfl := he; have c3 := c2.below b3; have q3 := q2.below b3; have rb3 := rb2.trans (b3.mono rb2.size); have rO3 := rO.below b3 rO.lt; have kk0 := row_at rO3 0 (.int .i64 3) rfl; clear b3 c2 q2 rb2; have d3 := row_at q3.row 0 _ rfl)
                        go_meet
                        case rel => exact ⟨T, v, last, c3, q3, rb3, by omega⟩
              as_aux_lemma =>
                have g2 : ¬ kd = 2 := fun e => h23 (Or.inl e)
                have g3 : ¬ kd = 3 := fun e => h23 (Or.inr e)
                clear h23
                go_wp2_with fail
                go_meet
                case rel => exact ⟨T, v, last, c2, q2, rb2, by omega⟩
            case rest =>
              as_aux_lemma =>
              clear c2 q2 rb2 rO k0 k1 d0
              obtain ⟨T2, v2, last2, c2, q2, rb2, hT2⟩ := hcut
              obtain ⟨B2, HB2⟩ : ∃ B2 : Int, Hid ((T2.length : Int) = B2) := ⟨_, rfl⟩
              obtain ⟨h2, HH2⟩ : ∃ h2, Hid (horL last2 (lv T2) = h2) := ⟨_, rfl⟩
              rw [HB2.out] at c2
              have HHS : Hid (∀ w', OAt w' g q last2 max B2 (lv T2) → Calls Try.prog 19 #[.pointer (some ⟨g, 0, none⟩)] w' fun e w2 => e = .returned (.int .u32 h2) ∧ Below w'.heap.size w' w2) := fun w' c => by rw [← HH2.out]; exact horizon_any c
              have HRS : Hid (∀ w', RfAt w' r v2 last2 max T2 → Calls Try.prog 20 #[.pointer (some ⟨r, 0, none⟩)] w' fun e w2 => e = .returned (.int .u32 h2) ∧ Below w'.heap.size w' w2) := fun w' c => by rw [← HH2.out]; exact rhor_any c
              go_upto_region 41 with fail
              refine wp_region_held_drew (S := fun w' => OAt w' g q last2 max B2 (lv T2) ∧ RfAt w' r v2 last2 max T2 ∧ Below w.heap.size w w') (by kernel_rfl) ⟨c2.below (below_drew _), q2.below (below_drew _), rb2.drew⟩ fun hS => ?_
              clear c2 q2 rb2
              refine wpAnyH_take (i := 0) (v := .pointer (some ⟨g, 0, none⟩)) rfl (by kernel_rfl) (by kernel_rfl) (by kernel_rfl) (fun _ _ _ h => h) (Or.inl ⟨by rfl, fun w _ => by rfl⟩) hS ?_
              try simp only [Act.put, List.getElem_toArray, List.getElem_cons_zero, List.getElem_cons_succ, List.setIfInBounds_toArray, List.set_cons_zero, List.set_cons_succ]
              refine wpAnyH_take (i := 2) (v := .pointer (some ⟨r, 0, none⟩)) rfl (by kernel_rfl) (by kernel_rfl) (by kernel_rfl) (fun _ _ _ h => h) (Or.inl ⟨by rfl, fun w _ => by rfl⟩) hS ?_
              try simp only [Act.put, List.getElem_toArray, List.getElem_cons_zero, List.getElem_cons_succ, List.setIfInBounds_toArray, List.set_cons_zero, List.set_cons_succ]
              refine wpAnyH_take (i := 3) (v := .pointer (some ⟨r, 0, none⟩)) rfl (by kernel_rfl) (by kernel_rfl) (by kernel_rfl) (fun _ _ _ h => h) (Or.inl ⟨by rfl, fun w _ => by go_simp⟩) hS ?_
              try simp only [Act.put, List.getElem_toArray, List.getElem_cons_zero, List.getElem_cons_succ, List.setIfInBounds_toArray, List.set_cons_zero, List.set_cons_succ]
              refine wpAnyH_take (i := 4) (v := .pointer (some ⟨r, 0, none⟩)) rfl (by kernel_rfl) (by kernel_rfl) (by kernel_rfl) (fun _ _ _ h => h) (Or.inl ⟨by rfl, fun w _ => by go_simp⟩) hS ?_
              try simp only [Act.put, List.getElem_toArray, List.getElem_cons_zero, List.getElem_cons_succ, List.setIfInBounds_toArray, List.set_cons_zero, List.set_cons_succ]
              refine wpAnyH_take (i := 5) (v := .int .u32 last2) rfl (by kernel_rfl) (by kernel_rfl) (by kernel_rfl) (fun _ _ _ h => h) (Or.inl ⟨by rfl, fun w h => by have c := row_at h.2.1.row 0 _ rfl; go_simp⟩) hS ?_
              try simp only [Act.put, List.getElem_toArray, List.getElem_cons_zero, List.getElem_cons_succ, List.setIfInBounds_toArray, List.set_cons_zero, List.set_cons_succ]
              refine wpAnyH_ready (rs := [1]) (by kernel_rfl) (by simp) ?_
              refine AllReadyH.cons rfl (fun K hK => ?_) AllReadyH.nil
              go_simp
              go_at_call 18
              refine Calls.mono (last_any hS.1) ?_
              rintro e wb ⟨he, hww⟩
              obtain rfl := he
              rw [hww]
              clear hww wb
              refine hK.out _ _ hS fun hS => ?_
              try simp only [Act.put, List.getElem_toArray, List.getElem_cons_zero, List.getElem_cons_succ, List.setIfInBounds_toArray, List.set_cons_zero, List.set_cons_succ]
              refine wpAnyH_take (i := 6) (v := .bool false) rfl (by kernel_rfl) (by kernel_rfl) (by kernel_rfl) (fun _ _ _ h => h) (Or.inl ⟨by rfl, fun w _ => by go_simp⟩) hS ?_
              try simp only [Act.put, List.getElem_toArray, List.getElem_cons_zero, List.getElem_cons_succ, List.setIfInBounds_toArray, List.set_cons_zero, List.set_cons_succ]
              refine wpAnyH_take (i := 7) (v := .bool false) rfl (by kernel_rfl) (by kernel_rfl) (by kernel_rfl) (fun _ _ _ h => h) (Or.inl ⟨by rfl, fun w _ => by go_simp⟩) hS ?_
              try simp only [Act.put, List.getElem_toArray, List.getElem_cons_zero, List.getElem_cons_succ, List.setIfInBounds_toArray, List.set_cons_zero, List.set_cons_succ]
              refine wpAnyH_take (i := 8) (v := .pointer (some ⟨g, 0, none⟩)) rfl (by kernel_rfl) (by kernel_rfl) (by kernel_rfl) (fun _ _ _ h => h) (Or.inl ⟨by rfl, fun w _ => by go_simp⟩) hS ?_
              try simp only [Act.put, List.getElem_toArray, List.getElem_cons_zero, List.getElem_cons_succ, List.setIfInBounds_toArray, List.set_cons_zero, List.set_cons_succ]
              refine wpAnyH_take (i := 10) (v := .pointer (some ⟨r, 0, none⟩)) rfl (by kernel_rfl) (by kernel_rfl) (by kernel_rfl) (fun _ _ _ h => h) (Or.inl ⟨by rfl, fun w _ => by go_simp⟩) hS ?_
              try simp only [Act.put, List.getElem_toArray, List.getElem_cons_zero, List.getElem_cons_succ, List.setIfInBounds_toArray, List.set_cons_zero, List.set_cons_succ]
              refine wpAnyH_ready (rs := [9]) (by kernel_rfl) (by simp) ?_
              refine AllReadyH.cons rfl (fun K hK => ?_) AllReadyH.nil
              go_simp
              go_at_call 19
              refine Calls.mono (HHS.out _ hS.1) ?_
              rintro e wn ⟨he, hcb⟩
              obtain rfl := he
              refine hK.out _ _ (⟨hS.1.below hcb, hS.2.1.below hcb, hS.2.2.trans (hcb.mono hS.2.2.size)⟩) fun hS => ?_
              clear hcb
              try simp only [Act.put, List.getElem_toArray, List.getElem_cons_zero, List.getElem_cons_succ, List.setIfInBounds_toArray, List.set_cons_zero, List.set_cons_succ]
              refine wpAnyH_ready (rs := [11]) (by kernel_rfl) (by simp) ?_
              refine AllReadyH.cons rfl (fun K hK => ?_) AllReadyH.nil
              go_simp
              go_at_call 20
              refine Calls.mono (HRS.out _ hS.2.1) ?_
              rintro e wn ⟨he, hcb⟩
              obtain rfl := he
              refine hK.out _ _ (⟨hS.1.below hcb, hS.2.1.below hcb, hS.2.2.trans (hcb.mono hS.2.2.size)⟩) fun hS => ?_
              clear hcb
              try simp only [Act.put, List.getElem_toArray, List.getElem_cons_zero, List.getElem_cons_succ, List.setIfInBounds_toArray, List.set_cons_zero, List.set_cons_succ]
              refine wpAnyH_take (i := 12) (v := .bool false) rfl (by kernel_rfl) (by kernel_rfl) (by kernel_rfl) (fun _ _ _ h => h) (Or.inl ⟨by rfl, fun w _ => by go_simp⟩) hS ?_
              try simp only [Act.put, List.getElem_toArray, List.getElem_cons_zero, List.getElem_cons_succ, List.setIfInBounds_toArray, List.set_cons_zero, List.set_cons_succ]
              refine wpAnyH_take (i := 13) (v := .bool false) rfl (by kernel_rfl) (by kernel_rfl) (by kernel_rfl) (fun _ _ _ h => h) (Or.inl ⟨by rfl, fun w _ => by go_simp⟩) hS ?_
              try simp only [Act.put, List.getElem_toArray, List.getElem_cons_zero, List.getElem_cons_succ, List.setIfInBounds_toArray, List.set_cons_zero, List.set_cons_succ]
              refine wpAnyH_done (by kernel_rfl) ?_ _
              obtain ⟨c2, q2, rb2⟩ := hS
              obtain ⟨K2, HK2⟩ : ∃ K2, Hid ((lv T2).length = K2) := ⟨_, rfl⟩
              have hv := live_any c2
              rw [HK2.out] at hv
              have HLV : Hid (∀ w' a cur cap2, RfAt w' r v2 last2 max T2 → S8.UAt w' a cur ((lv T2).map Prod.fst) → Calls Try.prog 21 #[.slice (some ⟨a, 0, none⟩) K2 cap2, .pointer (some ⟨r, 0, none⟩)] w' fun e w2 => e = .returned (.bool true) ∧ Below w'.heap.size w' w2) := fun w' a cur cap2 c' U => lives_any c' U K2 HK2.out (by have := c2.small; rw [HK2.out] at this; exact this)
              clear HHS HRS
              go_wp2_with (first
                | (go_at_call 22; refine hv.mono ?_; clear hv; rintro e w5 ⟨a5, cap5, cur5, he, U5, b5, _⟩; obtain rfl := he; have c5 := c2.below b5; have q5 := q2.below b5; have rb5 := rb2.trans (b5.mono rb2.size); clear b5)
                | (go_at_call 21; refine (HLV.out _ _ _ _ q5 U5).mono ?_; clear HLV; rintro e w6 ⟨he, b6⟩; obtain rfl := he; have c6 := c5.below b6; have q6 := q5.below b6; have rb6 := rb5.trans (b6.mono rb5.size); clear b6))
              go_roundw
              case rel => exact ⟨k + 1, last2, T2, v2, by go_num, by omega, hT2, by rw [HB2.out]; exact c6, q6, rb6⟩
              case measure => simp [intOf]; omega
      · have hk60' : ¬ (k : Int) < 60 := by omega
        go_wp2_with (go_at_call 10; refine (awake_any _).mono ?_; rintro e w5 ⟨he, b5⟩; obtain rfl := he)
        go_ret
        exact ⟨rfl, rb.trans (b5.mono rb.size)⟩
    · have hkl' : ¬ (k : Int) < (m : Int) := by omega
      go_wp2_with (go_at_call 10; refine (awake_any _).mono ?_; rintro e w5 ⟨he, b5⟩; obtain rfl := he)
      go_ret
      exact ⟨rfl, rb.trans (b5.mono rb.size)⟩

set_option maxRecDepth 100000 in
theorem lifted (os : Os) (started : os.Started) (H : Type) (enc : TypeId × Value → H) :
    ReturnsInHanded {} Try.checked os 3 .any (Rows.oraclePlaysSpec.pre6 enc Try.prog Try.f3 Rows.oraclePlaysRow.domain false) (Rows.oraclePlaysSpec.post enc Try.prog Try.f3 false true false false) := by
  refine returnsInHanded_of_change_sized (C := Try.checked) own started (by kernel_rfl) Try.func3
    (ChangeSpec.witness6 (enc := enc) (C := Try.checked) false ⟨#[], #[.int .u32 0, .int .u32 0, .slice none 0 0], []⟩ 8 (by kernel_rfl) (by kernel_rfl) (by kernel_rfl) (by kernel_rfl)) ?_
  intro W base args ds gs before hval0 hW hcnd hsz0 _
  have hval : ∀ (j : Nat) t v, Try.f3.params[j]? = some t → args[j]? = some v → Value.okWide Try.prog W .any base t v := hval0
  have hW' := hW
  obtain ⟨p, q, hA0, hV, rfl, hfz, hnd⟩ := hW
  have hA : DataW.TrodAll enc Try.prog W 0 (fun _ => true) true Try.f3.params.toList args.toList ds p := hA0
  have hsz : (DataW.weightsEach Try.prog (Try.f3.params.toList ++ []) (ds ++ gs)).all (· ≤ reachBytes) = true := hsz0
  rw [Try.params3] at hA hval hsz
  obtain ⟨v0, vs0, d0, ds0, p0, q0, hargs, rfl, rfl, h0, r0⟩ := trodAll_cons hA
  obtain ⟨v1, vs1, d1, ds1, p1, q1, rfl, rfl, rfl, h1, r1⟩ := trodAll_cons r0
  obtain ⟨v2, vs2, d2, ds2, p2, q2, rfl, rfl, rfl, h2, r2⟩ := trodAll_cons r1
  obtain ⟨rfl, rfl, rfl⟩ := trodAll_nil r2
  obtain rfl : args = #[v0, v1, v2] := by cases args; simp_all
  obtain ⟨rfl, rfl⟩ := trodVars_none hV
  simp only [List.append_nil] at hsz
  have hlt : ∀ x ∈ (p0 ++ (p1 ++ (p2 ++ []))), x.block < W.heap.size := fun x hx => hW'.lt x (by simpa using hx)
  have hw0 : (d0.weights Try.prog 22).all (· ≤ reachBytes) = true := List.all_eq_true.2 fun m hm => List.all_eq_true.1 hsz m (by simp [DataW.weightsEach, hm])
  have hw1 : (d1.weights Try.prog 22).all (· ≤ reachBytes) = true := List.all_eq_true.2 fun m hm => List.all_eq_true.1 hsz m (by simp [DataW.weightsEach, hm])
  have hw2 : (d2.weights Try.prog 23).all (· ≤ reachBytes) = true := List.all_eq_true.2 fun m hm => List.all_eq_true.1 hsz m (by simp [DataW.weightsEach, hm])
  have k0 := h0
  have k1 := h1
  have k2 := h2
  obtain ⟨a0, rfl, rfl, rfl, w0⟩ := open_int Try.underlying22 (hval 0 22 v0 rfl rfl) h0
  obtain ⟨a1, rfl, rfl, rfl, w1⟩ := open_int Try.underlying22 (hval 1 22 v1 rfl rfl) h1
  obtain ⟨a2, w2⟩ := open_calls (hval 2 23 v2 rfl rfl) h2 hw2
  clear hA0 hval0
  simp only [List.append_nil] at hW'
  refine (walk W a0 a1 v2 a2 w0 w1 w2).mono fun e W' ⟨he, hg⟩ => ?_
  subst he
  exact ⟨_, rfl, ⟨_, _, _, [], ([] ++ ([] ++ (p2 ++ []))), [], hW', (trodAll_cons_mk (shut_bool Try.underlying4 _) trodAll_mk0), (trodAll_cons_mk (Below.trod laidOut (by kernel_rfl) (of_decide_eq_true (by kernel_rfl)) k0 hg (fun x hx => (nomatch hx))) (trodAll_cons_mk (Below.trod laidOut (by kernel_rfl) (of_decide_eq_true (by kernel_rfl)) k1 hg (fun x hx => (nomatch hx))) (trodAll_cons_mk (Below.trod laidOut (by kernel_rfl) (of_decide_eq_true (by kernel_rfl)) k2 hg (fun x hx => hlt x (by simp [hx]))) trodAll_mk0))), rfl,
    hg.frame _, fun h => by cases h⟩⟩

theorem over : Rows.oraclePlaysRow.holds Try.pinned (OpenSpec.ofChange Rows.oraclePlaysSpec) :=
  OpenClaim.holds_of_wide 3 Try.f3 rfl rfl rfl rfl rfl rfl rfl ⟨rfl, rfl, rfl, rfl, rfl⟩ rfl rfl rfl rfl rfl (by kernel_rfl) Try.func3 (by kernel_rfl)
    (of_decide_eq_true (by kernel_rfl)) (by unfold Func.isWrapper; first | (rw [if_pos (by decide +kernel)]; kernel_rfl) | (rw [if_neg (by decide +kernel)]; exact ⟨rfl, rfl⟩))
    (fun os started H enc _ => lifted os started H enc)

/-- The statement. -/
theorem proved : Rows.OraclePlaysSaid :=
  over
#print axioms proved
end Go.Proofs.Ytmnbfcmamhinbaa.oraclePlays
