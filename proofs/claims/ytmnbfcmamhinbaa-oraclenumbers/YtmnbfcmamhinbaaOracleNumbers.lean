/-
  OracleNumbers (P14.5): for every list of calls, transactions' numbers rise, none is given twice, and one that has ended is live no more; and the fixed run comes out.
-/
import Derived.Test.YtmnbfcmamhinbaaOrd
namespace Go.Proofs.Ytmnbfcmamhinbaa.oracleNumbers
open Go.ChangeShapes Go.WideShapes Go.ChangeAt Go.RowKit
open Go.Deep
set_option linter.unusedVariables false
set_option linter.unusedSimpArgs false

theorem own : ownKnob Try.prog.godebug = none := by kernel_rfl

theorem addr_zero (a : Addr) : a.add 0 = a := by unfold Addr.add; split <;> simp_all
theorem hasL_endL (L : List (Int × Int)) (n : Int) : hasL (endL L n) n = false := by
  unfold hasL endL
  rw [List.any_eq_false]
  intro p hp
  simpa using (List.mem_filter.1 hp).2
theorem endE_endL (L : List (Int × Int)) (n : Int) : endE (endL L n) n = 9 := by
  unfold endE
  rw [hasL_endL]; rfl
set_option maxHeartbeats 4000000 in
theorem walk (w : World) (v : Value) (cs : List Call) (hs : Script w v cs) : Calls Try.prog 6 #[v] w fun e w' => e = .returned (.bool true) ∧ Below w.heap.size w w' := by
  obtain ⟨oa, cap0, rfl, hlen, hcs⟩ := hs
  obtain ⟨m, HN⟩ : ∃ m, Hid (cs.length = m) := ⟨_, rfl⟩
  rw [HN.out] at hcs hlen ⊢
  have HCS : Hid _ := hcs
  clear hcs
  have hnew := new_some 0 4294967295 (by omega) (by omega) (by omega) w
  go_enter Try.func6, Try.ntmps6
  go_upto_block 0 with (go_at_call 9; refine hnew.mono ?_; clear hnew; rintro e w1 ⟨g, q, he, hg, hm, c1, b1⟩; obtain rfl := he; have HG : Hid (w.heap.size ≤ g) := hg; have HMM : Hid (w.heap.size ≤ q) := hm; clear hg hm)
  have hF : Hid (∀ k, two g q k → w.heap.size ≤ k) := fun k hk => by
    rcases hk with rfl | rfl
    · exact HG.out
    · exact HMM.out
  go_wp2_with fail
  go_loopw [4, 5] (fun b i wr => ∃ (k : Nat) (begun last : Int) (L : List (Int × Int)), b = .int .u64 begun ∧ i = .int .i64 k ∧ k ≤ 60 ∧ begun ≤ k ∧ OAt wr g q last 4294967295 begun L ∧ Below w.heap.size w wr) (fun _ i _ => 60 - (intOf i).toNat)
  case atStart => exact ⟨0, 0, 0, [], rfl, rfl, by omega, by omega, c1, b1⟩
  case round =>
    clear c1 b1
    obtain ⟨k, begun, last, L, rfl, rfl, hk, hbk, C, rb⟩ := hrel
    by_cases hkl : k < m
    · have hkl' : (k : Int) < (m : Int) := by omega
      by_cases hk60 : k < 60
      · have hk60' : (k : Int) < 60 := by omega
        obtain ⟨A, ⟨kd, n⟩, hoa, hck, hok, hcell⟩ := HCS.out k hkl
        subst hoa
        have HW : Hid (∀ w', Below w.heap.size w w' → ∀ j u, [Value.int .i64 kd, .int .u64 n][j]? = some u → w'.cell? ((A.add (k * 2)).add j) = some u) := fun w' b j u hj => cell_keep (hcell j u hj) b
        have HS0 : Hid (∀ w', Below w.heap.size w w' → w'.cell? (A.add (k * 2)) = some (.int .i64 kd)) := fun w' b => by
          have := HW.out w' b 0 (.int .i64 kd) rfl
          rwa [addr_zero] at this
        have HS1 : Hid (∀ w', Below w.heap.size w w' → w'.cell? ⟨(A.add (k * 2)).block, (A.add (k * 2)).off + 1, none⟩ = some (.int .u64 n)) := fun w' b => HW.out w' b 1 (.int .u64 n) rfl
        have s0 := HS0.out _ rb
        clear hcell hck
        have hp := C.pos
        by_cases h0 : kd = 0
        · subst h0
          by_cases hs : L.length < 8
          · have hb := begin_some C hs (by omega)
            have hle : ¬ begun + 1 ≤ begun := by omega
            go_wp2_with (go_at_call 14; refine hb.mono ?_; clear hb; rintro e w2 ⟨he, c2, o2⟩; obtain rfl := he)
            have rb2 := rb.trans (o2.below rb.size hF.out)
            go_roundw
            case rel => exact ⟨k + 1, begun + 1, last, _, rfl, by go_num, by omega, by omega, c2, rb2⟩
            case measure => simp [intOf]; omega
          · have hb := begin_none C hs
            go_wp2_with (go_at_call 14; refine hb.mono ?_; clear hb; rintro e wb ⟨he, hww⟩; rw [hww]; clear hww wb; obtain rfl := he)
            go_roundw
            case rel => exact ⟨k + 1, begun, last, L, rfl, by go_num, by omega, by omega, C, rb⟩
            case measure => simp [intOf]; omega
        · have hdo := do_any C (by omega) kd n hok (wf_u hok).1
          have tl : Hid (1 = 1) := rfl
          by_cases h1 : kd = 1
          · subst h1
            have e3 : doO 1 n 4294967295 (last, begun, L) = (last, begun, endL L n) := by simp [doO]
            rw [e3] at hdo
            have HST : Hid (∀ w', OAt w' g q last 4294967295 begun (endL L n) → Calls Try.prog 13 #[.pointer (some ⟨g, 0, none⟩), .int .u64 n] w' fun e w2 => e = .returned (.tuple #[.int .u32 (startL (endL L n) n), .bool false]) ∧ w2 = w') := fun w' c' => by
              have := start_any c' n hok
              rw [hasL_endL] at this; exact this
            have HEN : Hid (∀ w', OAt w' g q last 4294967295 begun (endL L n) → Calls Try.prog 16 #[.pointer (some ⟨g, 0, none⟩), .int .u64 n] w' fun e w2 => e = .returned (.int .i64 9) ∧ OAt w2 g q last 4294967295 begun (endL (endL L n) n) ∧ Off (two g q) w' w2) := fun w' c' => by
              have := end_any c' n hok
              rw [endE_endL] at this; exact this
            clear e3
            go_wp2_with (first
              | (have hh := tl; clear hh tl; refine wpList_load_any rfl 33 (.tmp 45) rfl (A.add (k * 2)) rfl [.int .i64 1, .int .u64 n] _ (HW.out _ rb) Try.underlying33 rfl size33 ?_)
              | (go_at_call 23; refine hdo.mono ?_; clear hdo; rintro e w2 ⟨he, c2, o2⟩; obtain rfl := he; have rb2 := rb.trans (o2.below rb.size hF.out); have d0 := HS0.out _ rb2; have d1 := HS1.out _ rb2)
              | (go_at_call 13; refine (HST.out _ c2).mono ?_; clear HST; rintro e wb ⟨he, hww⟩; rw [hww]; clear hww wb; obtain rfl := he)
              | (go_at_call 16; refine (HEN.out _ c2).mono ?_; clear HEN; rintro e w3 ⟨he, c3, o3⟩; obtain rfl := he))
            have rb3 := rb2.trans (o3.below rb2.size hF.out)
            go_roundw
            case rel => exact ⟨k + 1, begun, last, _, rfl, by go_num, by omega, by omega, c3, rb3⟩
            case measure => simp [intOf]; omega
          · obtain ⟨st, HST⟩ : ∃ st, Hid (doO kd n 4294967295 (last, begun, L) = st) := ⟨_, rfl⟩
            rw [HST.out] at hdo
            have hst : st.2.1 = begun := by
              rw [← HST.out]
              unfold doO
              rw [if_neg h0, if_neg h1]
              split
              · split <;> rfl
              · split
                · split <;> rfl
                · rfl
            have HBB : Hid _ := hst
            clear hst
            go_wp2_with (first
              | (have hh := tl; clear hh tl; refine wpList_load_any rfl 33 (.tmp 45) rfl (A.add (k * 2)) rfl [.int .i64 kd, .int .u64 n] _ (HW.out _ rb) Try.underlying33 rfl size33 ?_)
              | (go_at_call 23; refine hdo.mono ?_; clear hdo; rintro e w2 ⟨he, c2, o2⟩; obtain rfl := he; have rb2 := rb.trans (o2.below rb.size hF.out); have d0 := HS0.out _ rb2))
            rw [HBB.out] at c2
            go_roundw
            case rel => exact ⟨k + 1, begun, st.1, st.2.2, rfl, by go_num, by omega, by omega, c2, rb2⟩
            case measure => simp [intOf]; omega
      · have hk60' : ¬ (k : Int) < 60 := by omega
        go_wp2_with (go_at_call 10; refine (awake_any _).mono ?_; rintro e w5 ⟨he, b5⟩; obtain rfl := he)
        go_ret
        exact ⟨rfl, rb.trans (b5.mono rb.size)⟩
    · have hkl' : ¬ (k : Int) < (m : Int) := by omega
      go_wp2_with (go_at_call 10; refine (awake_any _).mono ?_; rintro e w5 ⟨he, b5⟩; obtain rfl := he)
      go_ret
      exact ⟨rfl, rb.trans (b5.mono rb.size)⟩

set_option maxRecDepth 100000 in
theorem lifted (os : Os) (started : os.Started) (H : Type) (enc : TypeId × Value → H) :
    ReturnsInHanded {} Try.checked os 6 .any (Rows.oracleNumbersSpec.pre6 enc Try.prog Try.f6 Rows.oracleNumbersRow.domain false) (Rows.oracleNumbersSpec.post enc Try.prog Try.f6 false true false false) := by
  refine returnsInHanded_of_change_sized (C := Try.checked) own started (by kernel_rfl) Try.func6
    (ChangeSpec.witness6 (enc := enc) (C := Try.checked) false ⟨#[], #[.slice none 0 0], []⟩ 8 (by kernel_rfl) (by kernel_rfl) (by kernel_rfl) (by kernel_rfl)) ?_
  intro W base args ds gs before hval0 hW hcnd hsz0 _
  have hval : ∀ (j : Nat) t v, Try.f6.params[j]? = some t → args[j]? = some v → Value.okWide Try.prog W .any base t v := hval0
  have hW' := hW
  obtain ⟨p, q, hA0, hV, rfl, hfz, hnd⟩ := hW
  have hA : DataW.TrodAll enc Try.prog W 0 (fun _ => true) true Try.f6.params.toList args.toList ds p := hA0
  have hsz : (DataW.weightsEach Try.prog (Try.f6.params.toList ++ []) (ds ++ gs)).all (· ≤ reachBytes) = true := hsz0
  rw [Try.params6] at hA hval hsz
  obtain ⟨v0, vs0, d0, ds0, p0, q0, hargs, rfl, rfl, h0, r0⟩ := trodAll_cons hA
  obtain ⟨rfl, rfl, rfl⟩ := trodAll_nil r0
  obtain rfl : args = #[v0] := by cases args; simp_all
  obtain ⟨rfl, rfl⟩ := trodVars_none hV
  simp only [List.append_nil] at hsz
  have hlt : ∀ x ∈ (p0 ++ []), x.block < W.heap.size := fun x hx => hW'.lt x (by simpa using hx)
  have hw0 : (d0.weights Try.prog 23).all (· ≤ reachBytes) = true := List.all_eq_true.2 fun m hm => List.all_eq_true.1 hsz m (by simp [DataW.weightsEach, hm])
  have k0 := h0
  obtain ⟨a0, w0⟩ := open_calls (hval 0 23 v0 rfl rfl) h0 hw0
  clear hA0 hval0
  simp only [List.append_nil] at hW'
  refine (walk W v0 a0 w0).mono fun e W' ⟨he, hg⟩ => ?_
  subst he
  exact ⟨_, rfl, ⟨_, _, _, [], (p0 ++ []), [], hW', (trodAll_cons_mk (shut_bool Try.underlying4 _) trodAll_mk0), (trodAll_cons_mk (Below.trod laidOut (by kernel_rfl) (of_decide_eq_true (by kernel_rfl)) k0 hg (fun x hx => hlt x (by simp [hx]))) trodAll_mk0), rfl,
    hg.frame _, fun h => by cases h⟩⟩

theorem over : Rows.oracleNumbersRow.holds Try.pinned (OpenSpec.ofChange Rows.oracleNumbersSpec) :=
  OpenClaim.holds_of_wide 6 Try.f6 rfl rfl rfl rfl rfl rfl rfl ⟨rfl, rfl, rfl, rfl, rfl⟩ rfl rfl rfl rfl rfl (by kernel_rfl) Try.func6 (by kernel_rfl)
    (of_decide_eq_true (by kernel_rfl)) (by unfold Func.isWrapper; first | (rw [if_pos (by decide +kernel)]; kernel_rfl) | (rw [if_neg (by decide +kernel)]; exact ⟨rfl, rfl⟩))
    (fun os started H enc _ => lifted os started H enc)

/-- The statement. -/
theorem proved : Rows.OracleNumbersSaid :=
  over
#print axioms proved
end Go.Proofs.Ytmnbfcmamhinbaa.oracleNumbers
