/-
  OracleHorizon (P14.5): for every first and greatest timestamp and every list of calls, the horizon never falls, is never above a live transaction's start nor above the last commit's timestamp, and what begins starts at that; and the fixed run comes out.
-/
import Derived.Test.YtmnbfcmamhinbaaOrl
namespace Go.Proofs.Ytmnbfcmamhinbaa.oracleHorizon
open Go.ChangeShapes Go.WideShapes Go.ChangeAt Go.RowKit
open Go.Deep
set_option linter.unusedVariables false
set_option linter.unusedSimpArgs false

theorem own : ownKnob Try.prog.godebug = none := by kernel_rfl

set_option maxHeartbeats 8000000 in
set_option maxRecDepth 20000 in
theorem walk (w : World) (last0 max : Int) (v : Value) (cs : List Call) (wf0 : (Lit.int .u32 last0).wf = true) (wf1 : (Lit.int .u32 max).wf = true) (hs : Script w v cs) : Calls Try.prog 4 #[.int .u32 last0, .int .u32 max, v] w fun e w' => e = .returned (.bool true) ∧ Below w.heap.size w w' := by
  have l0 := wf_u4 wf0
  have m0 := wf_u4 wf1
  clear wf0 wf1
  obtain ⟨oa, cap0, rfl, hlen, hcs⟩ := hs
  obtain ⟨m, HN⟩ : ∃ m, Hid (cs.length = m) := ⟨_, rfl⟩
  rw [HN.out] at hcs hlen ⊢
  have HCS : Hid _ := hcs
  clear hcs
  by_cases hgt : last0 > max
  · have hnew := new_none last0 max (by omega) w
    have H9 := awake_any w
    go_enter Try.func4, Try.ntmps4
    go_wp2_with (first
      | (go_at_call 9; refine hnew.mono ?_; clear hnew; rintro e wb ⟨he, hww⟩; rw [hww]; clear hww wb; obtain rfl := he)
      | (go_at_call 10; refine H9.mono ?_; clear H9; rintro e w2 ⟨he, b2⟩; obtain rfl := he))
    go_ret
    exact ⟨rfl, b2⟩
  have hnew := new_some last0 max l0.1 (by omega) m0.2 w
  have HH0 : Hid (∀ w' g q, OAt w' g q last0 max 0 [] → Calls Try.prog 19 #[.pointer (some ⟨g, 0, none⟩)] w' fun e w2 => e = .returned (.int .u32 (horL last0 [])) ∧ Below w'.heap.size w' w2) := fun w' g q c => horizon_any c
  have HL0 : Hid (∀ w' g q, OAt w' g q last0 max 0 [] → Calls Try.prog 18 #[.pointer (some ⟨g, 0, none⟩)] w' fun e w2 => e = .returned (.int .u32 last0) ∧ w2 = w') := fun w' g q c => last_any c
  go_enter Try.func4, Try.ntmps4
  go_upto_block 0 with (first
    | (go_at_call 9; refine hnew.mono ?_; clear hnew; rintro e w1 ⟨g, q, he, hg, hm, c2, rb2⟩; obtain rfl := he; have HG : Hid (w.heap.size ≤ g) := hg; have HMM : Hid (w.heap.size ≤ q) := hm; clear hg hm)
    | (go_at_call 19; refine (HH0.out _ _ _ c2).mono ?_; clear HH0; rintro e wn ⟨he, bn⟩; obtain rfl := he; have c2n := c2.below bn; have rb2n := rb2.trans (bn.mono rb2.size); clear c2 rb2 bn; have c2 := c2n; have rb2 := rb2n; clear c2n rb2n)
    | (go_at_call 18; refine (HL0.out _ _ _ c2).mono ?_; clear HL0; rintro e wb ⟨he, hww⟩; rw [hww]; clear hww wb; obtain rfl := he))
  have hF : Hid (∀ k, two g q k → w.heap.size ≤ k) := fun k hk => by
    rcases hk with rfl | rfl
    · exact HG.out
    · exact HMM.out
  go_wp2_with fail
  go_loopw [8, 9, 10] (fun h l i wr => ∃ (k : Nat) (last begun : Int) (L : List (Int × Int)), h = .int .u32 (horL last L) ∧ l = .int .u32 last ∧ i = .int .i64 k ∧ k ≤ 60 ∧ begun ≤ k ∧ OAt wr g q last max begun L ∧ Below w.heap.size w wr) (fun _ _ i _ => 60 - (intOf i).toNat)
  case atStart => exact ⟨0, last0, 0, [], rfl, rfl, rfl, by omega, by omega, c2, rb2⟩
  case round =>
    clear c2 rb2
    obtain ⟨k, last, begun, L, rfl, rfl, rfl, hk, hbk, C, rb⟩ := hrel
    have END : Hid (∀ w', OAt w' g q last max begun L → Below w.heap.size w w' → True) := fun _ _ _ => trivial
    by_cases hin : k < m ∧ k < 60
    · have hkl' : (k : Int) < (m : Int) := by omega
      have hk60' : (k : Int) < 60 := by omega
      obtain ⟨A, ⟨kd, n⟩, hoa, hck, hok, hcell⟩ := HCS.out k hin.1
      subst hoa
      have HW : Hid (∀ w', Below w.heap.size w w' → ∀ j u, [Value.int .i64 kd, .int .u64 n][j]? = some u → w'.cell? ((A.add (k * 2)).add j) = some u) := fun w' b j u hj => cell_keep (hcell j u hj) b
      clear hcell hck END
      have hdo := do_any C (by omega) kd n hok (wf_u hok).1
      have hmo := doO_mono kd n max (last, begun, L)
      obtain ⟨⟨last2, begun2, L2⟩, HST⟩ : ∃ st, Hid (doO kd n max (last, begun, L) = st) := ⟨_, rfl⟩
      rw [HST.out] at hdo hmo
      simp only at hmo
      have hb2 : begun2 ≤ begun + 1 := hmo.2.2
      obtain ⟨h1, HH1⟩ : ∃ h1, Hid (horL last L = h1) := ⟨_, rfl⟩
      obtain ⟨h2, HH2⟩ : ∃ h2, Hid (horL last2 L2 = h2) := ⟨_, rfl⟩
      rw [HH1.out, HH2.out] at hmo
      have t1 : ¬ last2 < last := by omega
      have t2 : ¬ h2 < h1 := by omega
      have HLE : Hid _ := horL_le last2 L2
      have t3 : ¬ h2 > last2 := by have := HLE.out.1; rw [HH2.out] at this; omega
      rw [HH1.out]
      have HH : Hid (∀ w', OAt w' g q last2 max begun2 L2 → Calls Try.prog 19 #[.pointer (some ⟨g, 0, none⟩)] w' fun e w2 => e = .returned (.int .u32 h2) ∧ Below w'.heap.size w' w2) := fun w' c => by rw [← HH2.out]; exact horizon_any c
      have HL : Hid (∀ w', OAt w' g q last2 max begun2 L2 → Calls Try.prog 18 #[.pointer (some ⟨g, 0, none⟩)] w' fun e w2 => e = .returned (.int .u32 last2) ∧ w2 = w') := fun w' c => last_any c
      have HV : Hid (∀ w', OAt w' g q last2 max begun2 L2 → Calls Try.prog 22 #[.pointer (some ⟨g, 0, none⟩)] w' fun e w2 => ∃ a cap cur, e = .returned (.slice (some ⟨a, 0, none⟩) L2.length cap) ∧ S8.UAt w2 a cur (L2.map Prod.fst) ∧ Below w'.heap.size w' w2 ∧ w'.heap.size ≤ a) := fun w' c => live_any c
      have tl : Hid (1 = 1) := rfl
      have hbb : Hid (begun2 ≤ (k : Int) + 1) := by show _ ≤ _; omega
      clear hmo hb2
      go_upto_block 2 with (first
        | (have hh := tl; clear hh tl; refine wpList_load_any rfl 33 (.tmp 46) rfl (A.add (k * 2)) rfl [.int .i64 kd, .int .u64 n] _ (HW.out _ rb) Try.underlying33 rfl size33 ?_)
        | (go_at_call 23; refine hdo.mono ?_; clear hdo; rintro e w2 ⟨he, c2, o2⟩; obtain rfl := he; have rb2 := rb.trans (o2.below rb.size hF.out); clear C rb o2; simp only at c2; have t4 : ¬ last2 > max := (by have := c2.lo; omega))
        | (go_at_call 19; refine (HH.out _ c2).mono ?_; rintro e wn ⟨he, bn⟩; obtain rfl := he; have c2n := c2.below bn; have rb2n := rb2.trans (bn.mono rb2.size); clear c2 rb2 bn; have c2 := c2n; have rb2 := rb2n; clear c2n rb2n)
        | (go_at_call 18; refine (HL.out _ c2).mono ?_; rintro e wb ⟨he, hww⟩; rw [hww]; clear hww wb; obtain rfl := he)
        | (go_at_call 22; refine (HV.out _ c2).mono ?_; clear HV; rintro e wn ⟨a, cap, cur, he, U, bn, ha⟩; obtain rfl := he; have c2n := c2.below bn; have rb2n := rb2.trans (bn.mono rb2.size); clear c2 rb2 bn; have c2 := c2n; have rb2 := rb2n; clear c2n rb2n))
      have HSM : Hid (L2.length ≤ 8) := c2.small
      have HRS : Hid (L2.Pairwise fun p q => p.1 < q.1) := c2.rising
      have HNU : Hid _ := c2.nums
      obtain ⟨N, HNN⟩ : ∃ N, Hid (L2.length = N) := ⟨_, rfl⟩
      rw [HNN.out]
      have hN8 : N ≤ 8 := by rw [← HNN.out]; exact HSM.out
      clear HH HL ha
      go_wp2_with fail
      rename World => wo
      go_loopw [79] (fun i wi => ∃ j : Nat, i = .int .i64 j ∧ j ≤ N ∧ OAt wi g q last2 max begun2 L2 ∧ S8.UAt wi a cur (L2.map Prod.fst) ∧ Below w.heap.size w wi) (fun i _ => N - (intOf i).toNat)
      case atStart => exact ⟨0, rfl, by omega, c2, U, rb2⟩
      case round =>
        clear c2 U rb2
        obtain ⟨j, rfl, hj, c2, U, rb2⟩ := hrel
        by_cases hjn : j < N
        · have hjn' : (j : Int) < (N : Int) := by omega
          have hjl : j < L2.length := by rw [HNN.out]; exact hjn
          obtain ⟨x, s, HX⟩ : ∃ x s, Hid (L2[j]'hjl = (x, s)) := ⟨_, _, rfl⟩
          have hmem : (x, s) ∈ L2 := by rw [← HX.out]; exact List.getElem_mem _
          have cj := U.cell j x (by rw [List.getElem?_map, List.getElem?_eq_getElem hjl, HX.out]; rfl)
          have hla := live_at HRS.out hmem
          have hxr := HNU.out (x, s) hmem
          simp only at hxr
          have hst := start_any c2 x (wf_u64 (by omega) (by have := hbb.out; omega))
          rw [hla.1, hla.2] at hst
          have u1 : ¬ s < h2 := by have := HLE.out.2.1 (x, s) hmem; rw [HH2.out] at this; simp only at this; omega
          have u2 : ¬ s > last2 := by omega
          clear hla hxr hmem
          go_wp2_with (go_at_call 13; refine hst.mono ?_; clear hst; rintro e wb ⟨he, hww⟩; rw [hww]; clear hww wb; obtain rfl := he)
          go_roundw
          case rel => exact ⟨j + 1, by go_num, by omega, c2, U, rb2⟩
          case measure => simp [intOf]; omega
        · have hjn' : ¬ (j : Int) < (N : Int) := by omega
          go_wp2
          go_roundw
          case rel => exact ⟨k + 1, last2, begun2, L2, by rw [HH2.out], rfl, by go_num, by omega, by have := hbb.out; omega, c2, rb2⟩
          case measure => simp [intOf]; omega
    · have hq : ¬ ((k : Int) < (m : Int) ∧ (k : Int) < 60) := by omega
      have HP : Hid (∀ w', OAt w' g q last max begun L → Calls Try.prog 22 #[.pointer (some ⟨g, 0, none⟩)] w' fun e w2 => ∃ a cap cur, e = .returned (.slice (some ⟨a, 0, none⟩) L.length cap) ∧ S8.UAt w2 a cur (L.map Prod.fst) ∧ Below w'.heap.size w' w2 ∧ w'.heap.size ≤ a) := fun w' c => live_any c
      have hpos := C.pos
      have hsm := C.small
      clear END
      by_cases hfull : L.length < 8
      · have hb := begin_some C hfull (by omega)
        have hgt0 : begun + 1 > 0 := by omega
        have main : ∀ (T : Prop), T → T := fun _ h => h
        by_cases hkl : k < m
        · have hkl' : (k : Int) < (m : Int) := by omega
          have hk60' : ¬ (k : Int) < 60 := by omega
          clear hq
          go_wp2_with (first
            | (go_at_call 14; refine hb.mono ?_; clear hb; rintro e w2 ⟨he, c2, o2⟩; obtain rfl := he; have rb2 := rb.trans (o2.below rb.size hF.out); clear o2)
            | (go_at_call 10; refine (awake_any _).mono ?_; rintro e w5 ⟨he, b5⟩; obtain rfl := he))
          go_ret
          exact ⟨rfl, rb2.trans (b5.mono rb2.size)⟩
        · have hkl' : ¬ (k : Int) < (m : Int) := by omega
          clear hq
          go_wp2_with (first
            | (go_at_call 14; refine hb.mono ?_; clear hb; rintro e w2 ⟨he, c2, o2⟩; obtain rfl := he; have rb2 := rb.trans (o2.below rb.size hF.out); clear o2)
            | (go_at_call 10; refine (awake_any _).mono ?_; rintro e w5 ⟨he, b5⟩; obtain rfl := he))
          go_ret
          exact ⟨rfl, rb2.trans (b5.mono rb2.size)⟩
      · have hb := begin_none C hfull
        have h8 : L.length = 8 := by omega
        have hv := live_any C
        rw [h8] at hv
        clear hfull h8 hsm
        by_cases hkl : k < m
        · have hkl' : (k : Int) < (m : Int) := by omega
          have hk60' : ¬ (k : Int) < 60 := by omega
          clear hq
          go_wp2_with (first
            | (go_at_call 14; refine hb.mono ?_; clear hb; rintro e wb ⟨he, hww⟩; rw [hww]; clear hww wb; obtain rfl := he)
            | (go_at_call 22; refine hv.mono ?_; clear hv; rintro e w2 ⟨a, cap, cur, he, U, bn, ha⟩; obtain rfl := he; have rb2 := rb.trans (bn.mono rb.size); clear U ha bn)
            | (go_at_call 10; refine (awake_any _).mono ?_; rintro e w5 ⟨he, b5⟩; obtain rfl := he))
          go_ret
          exact ⟨rfl, rb2.trans (b5.mono rb2.size)⟩
        · have hkl' : ¬ (k : Int) < (m : Int) := by omega
          clear hq
          go_wp2_with (first
            | (go_at_call 14; refine hb.mono ?_; clear hb; rintro e wb ⟨he, hww⟩; rw [hww]; clear hww wb; obtain rfl := he)
            | (go_at_call 22; refine hv.mono ?_; clear hv; rintro e w2 ⟨a, cap, cur, he, U, bn, ha⟩; obtain rfl := he; have rb2 := rb.trans (bn.mono rb.size); clear U ha bn)
            | (go_at_call 10; refine (awake_any _).mono ?_; rintro e w5 ⟨he, b5⟩; obtain rfl := he))
          go_ret
          exact ⟨rfl, rb2.trans (b5.mono rb2.size)⟩

set_option maxRecDepth 100000 in
theorem lifted (os : Os) (started : os.Started) (H : Type) (enc : TypeId × Value → H) :
    ReturnsInHanded {} Try.checked os 4 .any (Rows.oracleHorizonSpec.pre6 enc Try.prog Try.f4 Rows.oracleHorizonRow.domain false) (Rows.oracleHorizonSpec.post enc Try.prog Try.f4 false true false false) := by
  refine returnsInHanded_of_change_sized (C := Try.checked) own started (by kernel_rfl) Try.func4
    (ChangeSpec.witness6 (enc := enc) (C := Try.checked) false ⟨#[], #[.int .u32 0, .int .u32 0, .slice none 0 0], []⟩ 8 (by kernel_rfl) (by kernel_rfl) (by kernel_rfl) (by kernel_rfl)) ?_
  intro W base args ds gs before hval0 hW hcnd hsz0 _
  have hval : ∀ (j : Nat) t v, Try.f4.params[j]? = some t → args[j]? = some v → Value.okWide Try.prog W .any base t v := hval0
  have hW' := hW
  obtain ⟨p, q, hA0, hV, rfl, hfz, hnd⟩ := hW
  have hA : DataW.TrodAll enc Try.prog W 0 (fun _ => true) true Try.f4.params.toList args.toList ds p := hA0
  have hsz : (DataW.weightsEach Try.prog (Try.f4.params.toList ++ []) (ds ++ gs)).all (· ≤ reachBytes) = true := hsz0
  rw [Try.params4] at hA hval hsz
  obtain ⟨v0, vs0, d0, ds0, p0, q0, hargs, rfl, rfl, h0, r0⟩ := trodAll_cons hA
  obtain ⟨v1, vs1, d1, ds1, p1, q1, rfl, rfl, rfl, h1, r1⟩ := trodAll_cons r0
  obtain ⟨v2, vs2, d2, ds2, p2, q2, rfl, rfl, rfl, h2, r2⟩ := trodAll_cons r1
  obtain ⟨rfl, rfl, rfl⟩ := trodAll_nil r2
  obtain rfl : args = #[v0, v1, v2] := by cases args; simp_all
  obtain ⟨rfl, rfl⟩ := trodVars_none hV
  simp only [List.append_nil] at hsz
  have hlt : ∀ x ∈ (p0 ++ (p1 ++ (p2 ++ []))), x.block < W.heap.size := fun x hx => hW'.lt x (by simpa using hx)
  have hw0 : (d0.weights Try.prog 22).all (· ≤ reachBytes) = true := List.all_eq_true.2 fun m hm => List.all_eq_true.1 hsz m (by simp [DataW.weightsEach, hm])
  have hw1 : (d1.weights Try.prog 22).all (· ≤ reachBytes) = true := List.all_eq_true.2 fun m hm => List.all_eq_true.1 hsz m (by simp [DataW.weightsEach, hm])
  have hw2 : (d2.weights Try.prog 23).all (· ≤ reachBytes) = true := List.all_eq_true.2 fun m hm => List.all_eq_true.1 hsz m (by simp [DataW.weightsEach, hm])
  have k0 := h0
  have k1 := h1
  have k2 := h2
  obtain ⟨a0, rfl, rfl, rfl, w0⟩ := open_int Try.underlying22 (hval 0 22 v0 rfl rfl) h0
  obtain ⟨a1, rfl, rfl, rfl, w1⟩ := open_int Try.underlying22 (hval 1 22 v1 rfl rfl) h1
  obtain ⟨a2, w2⟩ := open_calls (hval 2 23 v2 rfl rfl) h2 hw2
  clear hA0 hval0
  simp only [List.append_nil] at hW'
  refine (walk W a0 a1 v2 a2 w0 w1 w2).mono fun e W' ⟨he, hg⟩ => ?_
  subst he
  exact ⟨_, rfl, ⟨_, _, _, [], ([] ++ ([] ++ (p2 ++ []))), [], hW', (trodAll_cons_mk (shut_bool Try.underlying4 _) trodAll_mk0), (trodAll_cons_mk (Below.trod laidOut (by kernel_rfl) (of_decide_eq_true (by kernel_rfl)) k0 hg (fun x hx => (nomatch hx))) (trodAll_cons_mk (Below.trod laidOut (by kernel_rfl) (of_decide_eq_true (by kernel_rfl)) k1 hg (fun x hx => (nomatch hx))) (trodAll_cons_mk (Below.trod laidOut (by kernel_rfl) (of_decide_eq_true (by kernel_rfl)) k2 hg (fun x hx => hlt x (by simp [hx]))) trodAll_mk0))), rfl,
    hg.frame _, fun h => by cases h⟩⟩

theorem over : Rows.oracleHorizonRow.holds Try.pinned (OpenSpec.ofChange Rows.oracleHorizonSpec) :=
  OpenClaim.holds_of_wide 4 Try.f4 rfl rfl rfl rfl rfl rfl rfl ⟨rfl, rfl, rfl, rfl, rfl⟩ rfl rfl rfl rfl rfl (by kernel_rfl) Try.func4 (by kernel_rfl)
    (of_decide_eq_true (by kernel_rfl)) (by unfold Func.isWrapper; first | (rw [if_pos (by decide +kernel)]; kernel_rfl) | (rw [if_neg (by decide +kernel)]; exact ⟨rfl, rfl⟩))
    (fun os started H enc _ => lifted os started H enc)

/-- The statement. -/
theorem proved : Rows.OracleHorizonSaid :=
  over
#print axioms proved
end Go.Proofs.Ytmnbfcmamhinbaa.oracleHorizon
