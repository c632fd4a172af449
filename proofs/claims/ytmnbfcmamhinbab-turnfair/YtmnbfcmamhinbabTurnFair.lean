/-
  TurnFair (P15.3): for every list of calls, everyone who then asks, and whoever asks behind, who waits has the turn as soon as all who stand ahead have left; and the fixed run comes out.
-/
import Derived.Test.YtmnbfcmamhinbabTro
namespace Go.Proofs.Ytmnbfcmamhinbab.turnFair
open Go.ChangeShapes Go.WideShapes Go.ChangeAt Go.RowKit
open Go.Deep
set_option linter.unusedVariables false
set_option linter.unusedSimpArgs false

theorem own : ownKnob Try.prog.godebug = none := by kernel_rfl

theorem askL_mem (xs : List Int) (x : Int) : x ∈ Tu.askL xs x := by
  unfold Tu.askL
  split
  · assumption
  · simp
theorem askL_again (xs : List Int) (x : Int) : Tu.askL (Tu.askL xs x) x = Tu.askL xs x := if_pos (askL_mem xs x)
theorem askL_length (xs : List Int) (x : Int) : (Tu.askL xs x).length ≤ xs.length + 1 := by
  unfold Tu.askL
  split
  · omega
  · simp
theorem leaveL_not (xs : List Int) (x : Int) : ¬ x ∈ Tu.leaveL xs x := fun h => by simpa using (List.mem_filter.1 h).2
theorem leaveL_length (xs : List Int) (x : Int) : (Tu.leaveL xs x).length ≤ xs.length := List.length_filter_le _ _
theorem hasF_not {xs : List Int} {x : Int} (h : ¬ x ∈ xs) : Tu.hasF xs x = false := by
  cases xs with
  | nil => rfl
  | cons y r =>
    show (y == x) = false
    have : ¬ y = x := fun e => h (by simp [e])
    simpa using this
theorem hasF_at {xs : List Int} (h : xs.Nodup) {j : Nat} {x : Int} (hj : xs[j]? = some x) : Tu.hasF xs x = decide (j = 0) := by
  cases xs with
  | nil => simp at hj
  | cons y r =>
    show (y == x) = _
    cases j with
    | zero => simp at hj; simp [hj]
    | succ k =>
      have hx : x ∈ r := List.mem_of_getElem? (by simpa using hj)
      have : ¬ y = x := fun e => (List.nodup_cons.1 h).1 (e ▸ hx)
      simpa using this
theorem leaveL_first {x : Int} {r : List Int} (h : (x :: r).Nodup) : Tu.leaveL (x :: r) x = r := by
  have := Tu.leaveL_split (A := []) h
  simpa using this
set_option maxHeartbeats 4000000 in
set_option maxRecDepth 20000 in
theorem walk (w : World) (vs : Value) (cs : List Tu.Call) (who : Int) (vm : Value) (ms : List Int) (hs : Tu.Script w vs cs) (wf : (Lit.int .i64 who).wf = true) (hms : Tu.Nums w vm ms) : Calls Try.prog 3 #[vs, .int .i64 who, vm] w fun e w' => e = .returned (.bool true) ∧ Below w.heap.size w w' := by
  obtain ⟨oa, cap0, rfl, hlen, hcs⟩ := hs
  obtain ⟨m, HN⟩ : ∃ m, Hid (cs.length = m) := ⟨_, rfl⟩
  rw [HN.out] at hcs hlen ⊢
  have HCS : Hid _ := hcs
  obtain ⟨ob, cap1, rfl, hcm⟩ := hms
  obtain ⟨m2, HN2⟩ : ∃ m, Hid (ms.length = m) := ⟨_, rfl⟩
  rw [HN2.out] at hcm ⊢
  have HCM : Hid _ := hcm
  clear hcs hcm wf
  have hnew := Tu.new_any w
  go_enter Try.func3, Try.ntmps3
  go_upto_block 0 with (go_at_call 9; refine hnew.mono ?_; clear hnew; rintro e w1 ⟨t, he, ht, c1, b1⟩; obtain rfl := he; have HT : Hid (w.heap.size ≤ t) := ht; clear ht)
  have hF : Hid (∀ k, t ≤ k → w.heap.size ≤ k) := fun k hk => Nat.le_trans HT.out hk
  go_cut [8] from 12 to 44 (fun _ wx => ∃ (xs : List Int) (v : Value), Tu.TAt wx t v xs ∧ Below w.heap.size w wx ∧ xs.length ≤ 60)
  case first =>
    go_wp2_with fail
    go_loopw [8] (fun i wr => ∃ (k : Nat) (xs : List Int) (v : Value), i = .int .i64 k ∧ k ≤ 60 ∧ xs.length ≤ k ∧ Tu.TAt wr t v xs ∧ Below w.heap.size w wr) (fun i _ => 60 - (intOf i).toNat)
    case atStart => exact ⟨0, [], _, rfl, by omega, by simp, c1, b1⟩
    case round =>
      clear c1 b1
      obtain ⟨k, xs, v, rfl, hk, hxk, c2, rb2⟩ := hrel
      by_cases hkl : k < m
      · have hkl' : (k : Int) < (m : Int) := by omega
        by_cases hk60 : k < 60
        · have hk60' : (k : Int) < 60 := by omega
          obtain ⟨A, ⟨kd, x⟩, hoa, hck, hok, hcell⟩ := HCS.out k hkl
          subst hoa
          have s0 : wr.cell? (A.add (k * 2)) = some (.int .i64 kd) := by
            have := cell_keep (hcell 0 (.int .i64 kd) rfl) rb2
            rwa [Addr.add_zero'] at this
          have s1 : wr.cell? ⟨(A.add (k * 2)).block, (A.add (k * 2)).off + 1, none⟩ = some (.int .i64 x) := cell_keep (hcell 1 (.int .i64 x) rfl) rb2
          clear hcell hck
          by_cases h0 : kd = 0
          · subst h0
            have ha := Tu.ask_any c2 x (by omega)
            unfold Tu.Asked at ha
            have HLEN : Hid _ := askL_length xs x
            obtain ⟨b, HB⟩ : ∃ b, Hid (Tu.hasF (Tu.askL xs x) x = b) := ⟨_, rfl⟩
            rw [HB.out] at ha
            go_wp2_with (go_at_call 10; refine ha.mono ?_; clear ha; rintro e w3 ⟨he, v3, c3, o3⟩; obtain rfl := he; have rb3 := rb2.trans (o3.below rb2.size (fun j q => hF.out j (c2.foot_le q))); clear o3)
            go_roundw
            case rel => exact ⟨k + 1, _, _, by go_num, by omega, by have := HLEN.out; omega, c3, rb3⟩
            case measure => simp [intOf]; omega
          · have ha := Tu.leave_any c2 x
            unfold Tu.Left at ha
            have HLEN : Hid _ := leaveL_length xs x
            obtain ⟨b, HB⟩ : ∃ b, Hid (decide (x ∈ xs) = b) := ⟨_, rfl⟩
            rw [HB.out] at ha
            go_wp2_with (go_at_call 11; refine ha.mono ?_; clear ha; rintro e w3 ⟨he, v3, c3, o3, _⟩; obtain rfl := he; have rb3 := rb2.trans (o3.below rb2.size (fun j q => hF.out j (c2.foot_le q))); clear o3)
            go_roundw
            case rel => exact ⟨k + 1, _, _, by go_num, by omega, by have := HLEN.out; omega, c3, rb3⟩
            case measure => simp [intOf]; omega
        · have hk60' : ¬ (k : Int) < 60 := by omega
          go_wp2_with fail
          go_meet
          case rel => exact ⟨xs, v, c2, rb2, by omega⟩
      · have hkl' : ¬ (k : Int) < (m : Int) := by omega
        go_wp2_with fail
        go_meet
        case rel => exact ⟨xs, v, c2, rb2, by omega⟩
  case rest =>
    clear c1 b1
    obtain ⟨xs0, v0, c0, rb0, hx0⟩ := hcut
    have ha := Tu.ask_any c0 who (by omega)
    unfold Tu.Asked at ha
    obtain ⟨b, HB⟩ : ∃ b, Hid (Tu.hasF (Tu.askL xs0 who) who = b) := ⟨_, rfl⟩
    rw [HB.out] at ha
    have hxl := askL_length xs0 who
    have HIN : Hid (who ∈ Tu.askL xs0 who) := askL_mem xs0 who
    obtain ⟨xs1, HX1⟩ : ∃ xs1, Hid (Tu.askL xs0 who = xs1) := ⟨_, rfl⟩
    rw [HX1.out] at ha hxl HIN
    go_upto_block 2 with (go_at_call 10; refine ha.mono ?_; clear ha; rintro e w3 ⟨he, v3, c3, o3⟩; obtain rfl := he; have rb3 := rb0.trans (o3.below rb0.size (fun j q => hF.out j (c0.foot_le q))); clear o3 c0 rb0)
    go_cut [9] from 45 to 63 (fun _ wx => ∃ (xs : List Int) (v : Value), Tu.TAt wx t v xs ∧ Below w.heap.size w wx ∧ Hid (who ∈ xs) ∧ xs.length ≤ 110)
    case first =>
      go_wp2_with fail
      go_loopw [9] (fun i wr => ∃ (k : Nat) (xs : List Int) (v : Value), i = .int .i64 k ∧ k ≤ 40 ∧ xs.length ≤ 61 + k ∧ Tu.TAt wr t v xs ∧ Below w.heap.size w wr ∧ Hid (who ∈ xs)) (fun i _ => 40 - (intOf i).toNat)
      case atStart => exact ⟨0, xs1, _, rfl, by omega, by omega, c3, rb3, HIN⟩
      case round =>
        clear c3 rb3
        obtain ⟨k, xs, v, rfl, hk, hxk, c2, rb2, HI⟩ := hrel
        by_cases hkl : k < m2
        · have hkl' : (k : Int) < (m2 : Int) := by omega
          by_cases hk40 : k < 40
          · have hk40' : (k : Int) < 40 := by omega
            obtain ⟨A, x, hoa, _, hcell⟩ := HCM.out k hkl
            subst hoa
            have s0 : wr.cell? (A.add k) = some (.int .i64 x) := cell_keep hcell rb2
            clear hcell
            have ha := Tu.ask_any c2 x (by omega)
            unfold Tu.Asked at ha
            have HLEN : Hid _ := askL_length xs x
            have HI2 : Hid (who ∈ Tu.askL xs x) := by
              show _ ∈ _
              unfold Tu.askL
              split
              · exact HI.out
              · exact List.mem_append.2 (Or.inl HI.out)
            obtain ⟨b, HB⟩ : ∃ b, Hid (Tu.hasF (Tu.askL xs x) x = b) := ⟨_, rfl⟩
            rw [HB.out] at ha
            go_wp2_with (go_at_call 10; refine ha.mono ?_; clear ha; rintro e w3 ⟨he, v3, c3, o3⟩; obtain rfl := he; have rb3 := rb2.trans (o3.below rb2.size (fun j q => hF.out j (c2.foot_le q))); clear o3)
            go_roundw
            case rel => exact ⟨k + 1, _, _, by go_num, by omega, by have := HLEN.out; omega, c3, rb3, HI2⟩
            case measure => simp [intOf]; omega
          · have hk40' : ¬ (k : Int) < 40 := by omega
            go_wp2_with fail
            go_meet
            case rel => exact ⟨xs, v, c2, rb2, HI, by omega⟩
        · have hkl' : ¬ (k : Int) < (m2 : Int) := by omega
          go_wp2_with fail
          go_meet
          case rel => exact ⟨xs, v, c2, rb2, HI, by omega⟩
    case rest =>
      clear c3 rb3 HIN
      obtain ⟨ys, v2, c2, rb2, HIN, hyl⟩ := hcut
      have hln := Tu.line_any c2
      obtain ⟨N, HNN⟩ : ∃ N, Hid (ys.length = N) := ⟨_, rfl⟩
      have hN : N ≤ 110 := by rw [← HNN.out]; exact hyl
      have HND : Hid (ys.Nodup) := c2.one
      obtain ⟨OB, HOB⟩ : ∃ OB, Hid (v2.ownBlock = OB) := ⟨_, rfl⟩
      go_upto_block 4 with (go_at_call 12; refine hln.mono ?_; clear hln; rintro e w4 ⟨v4, he, own4, bn⟩; obtain ⟨oa4, cap4, hv4⟩ := own4.form; rw [HNN.out] at hv4; subst hv4; obtain rfl := he)
      have HBL : Hid (∀ k, OB = some k → k < wc.heap.size) := fun k hk => (World.ownsRow.lt c2.own k (by rw [HOB.out]; exact hk)).2
      have htl : t < wc.heap.size := c2.row.lt
      have c4 := c2.below bn
      have rb4 := rb2.trans (bn.mono rb2.size)
      have HCL : Hid (∀ j, j < N → ∃ g y, oa4 = some ⟨g, 0, none⟩ ∧ ys[j]? = some y ∧ ∀ wi, Off (fun k => k = t ∨ OB = some k) w4 wi → wi.cell? ⟨g, j, none⟩ = some (.int .i64 y)) := fun j hj => by
        obtain ⟨g, cp, e, hgb, _⟩ := own4.blk (by rw [HNN.out]; omega)
        cases e
        have hx := List.getElem?_eq_getElem (by rw [HNN.out]; exact hj : j < ys.length)
        refine ⟨g, _, rfl, hx, fun wi ho => ?_⟩
        have own5 := own4.off ho (fun k hk q => by
          rcases q with q | q
          · omega
          · have := HBL.out k q; omega)
        exact (own5.cell j _ hx).1
      clear own4 bn c2 rb2
      go_wp2_with fail
      go_loopw [67] (fun i wi => ∃ (j : Nat) (v : Value), i = .int .i64 j ∧ j ≤ N ∧ Hid (who ∈ ys.drop j) ∧ Tu.TAt wi t v (ys.drop j) ∧ Hid (v.ownBlock = OB) ∧ Off (fun k => k = t ∨ OB = some k) w4 wi ∧ Below w.heap.size w wi) (fun i _ => N - (intOf i).toNat)
      case atStart => exact ⟨0, v2, rfl, by omega, HIN, c4, HOB, Off.refl _ _, rb4⟩
      case round =>
        clear c4 rb4
        obtain ⟨j, v, rfl, hj, HI, c2, HV, ho, rb2⟩ := hrel
        have hjn : j < N := by
          rcases Nat.lt_or_ge j N with q | q
          · exact q
          · have := HI.out
            rw [List.drop_eq_nil_of_le (by rw [HNN.out]; exact q)] at this
            cases this
        have hjn' : (j : Int) < (N : Int) := by omega
        obtain ⟨g4, y, hoa, hy, hcell⟩ := HCL.out j hjn
        subst hoa
        have s0 := hcell _ ho
        have hjl : j < ys.length := by rw [HNN.out]; exact hjn
        have HD : Hid (ys.drop j = y :: ys.drop (j + 1)) := by
          show _ = _
          rw [List.drop_eq_getElem_cons hjl]
          congr 1
          rw [List.getElem?_eq_getElem hjl] at hy
          exact Option.some.inj hy
        rw [HD.out] at c2
        have hnd := c2.one
        clear hcell hy hjl
        by_cases hyw : y = who
        · subst hyw
          have hh := Tu.has_any c2 y
          have e1 : Tu.hasF (y :: ys.drop (j + 1)) y = true := by show (y == y) = true; simp
          rw [e1] at hh
          clear e1
          go_wp2_with (first
            | (go_at_call 13; refine hh.mono ?_; clear hh; rintro e wb ⟨he, hww⟩; rw [hww]; clear hww wb; obtain rfl := he)
            | (go_at_call 14; refine (Tu.awake_any _).mono ?_; rintro e w5 ⟨he, b5⟩; obtain rfl := he))
          go_ret
          exact ⟨rfl, rb2.trans (b5.mono rb2.size)⟩
        · have h1 := Tu.has_any c2 who
          have e1 : Tu.hasF (y :: ys.drop (j + 1)) who = false := by show (y == who) = false; simpa using hyw
          rw [e1] at h1
          have h2 := Tu.has_any c2 y
          have e2 : Tu.hasF (y :: ys.drop (j + 1)) y = true := by show (y == y) = true; simp
          rw [e2] at h2
          have h3 := Tu.leave_any c2 y
          unfold Tu.Left at h3
          rw [leaveL_first hnd, decide_eq_true (by simp)] at h3
          have HI2 : Hid (who ∈ ys.drop (j + 1)) := by
            have := HI.out
            rw [HD.out] at this
            rcases List.mem_cons.1 this with q | q
            · exact absurd q.symm hyw
            · exact q
          have t1 : Hid (1 = 1) := rfl
          clear e1 e2 hnd
          go_wp2_with (first
            | (have hh := t1; clear hh t1; go_at_call 13; refine h1.mono ?_; clear h1; rintro e wb ⟨he, hww⟩; rw [hww]; clear hww wb; obtain rfl := he)
            | (go_at_call 13; refine h2.mono ?_; clear h2; rintro e wb ⟨he, hww⟩; rw [hww]; clear hww wb; obtain rfl := he)
            | (go_at_call 11; refine h3.mono ?_; clear h3; rintro e w5 ⟨he, v5, c5, o5, e5⟩; obtain rfl := he; have rb5 := rb2.trans (o5.below rb2.size (fun j q => hF.out j (c2.foot_le q))); have HV5 : Hid (v5.ownBlock = OB) := e5.trans HV.out; have ho5 : Off (fun k => k = t ∨ OB = some k) w4 w5 := ho.trans o5 (fun j q => Or.inl (by rcases q with q | q; exact Or.inl q; exact Or.inr (by rw [← HV.out]; exact q))); clear e5 o5))
          go_roundw
          case rel => exact ⟨j + 1, v5, by go_num, by omega, HI2, c5, HV5, ho5, rb5⟩
          case measure => simp [intOf]; omega

set_option maxRecDepth 100000 in
theorem lifted (os : Os) (started : os.Started) (H : Type) (enc : TypeId × Value → H) :
    ReturnsInHanded {} Try.checked os 3 .any (Rows.turnFairSpec.pre6 enc Try.prog Try.f3 Rows.turnFairRow.domain false) (Rows.turnFairSpec.post enc Try.prog Try.f3 false true false false) := by
  refine returnsInHanded_of_change_sized (C := Try.checked) own started (by kernel_rfl) Try.func3
    (ChangeSpec.witness6 (enc := enc) (C := Try.checked) false ⟨#[], #[.slice none 0 0, .int .i64 0, .slice none 0 0], []⟩ 8 (by kernel_rfl) (by kernel_rfl) (by kernel_rfl) (by kernel_rfl)) ?_
  intro W base args ds gs before hval0 hW hcnd hsz0 _
  have hval : ∀ (j : Nat) t v, Try.f3.params[j]? = some t → args[j]? = some v → Value.okWide Try.prog W .any base t v := hval0
  have hW' := hW
  obtain ⟨p, q, hA0, hV, rfl, hfz, hnd⟩ := hW
  have hA : DataW.TrodAll enc Try.prog W 0 (fun _ => true) true Try.f3.params.toList args.toList ds p := hA0
  have hsz : (DataW.weightsEach Try.prog (Try.f3.params.toList ++ []) (ds ++ gs)).all (· ≤ reachBytes) = true := hsz0
  rw [Try.params3] at hA hval hsz
  obtain ⟨v0, vs0, d0, ds0, p0, q0, hargs, rfl, rfl, h0, r0⟩ := trodAll_cons hA
  obtain ⟨v1, vs1, d1, ds1, p1, q1, rfl, rfl, rfl, h1, r1⟩ := trodAll_cons r0
  obtain ⟨v2, vs2, d2, ds2, p2, q2, rfl, rfl, rfl, h2, r2⟩ := trodAll_cons r1
  obtain ⟨rfl, rfl, rfl⟩ := trodAll_nil r2
  obtain rfl : args = #[v0, v1, v2] := by cases args; simp_all
  obtain ⟨rfl, rfl⟩ := trodVars_none hV
  simp only [List.append_nil] at hsz
  have hlt : ∀ x ∈ (p0 ++ (p1 ++ (p2 ++ []))), x.block < W.heap.size := fun x hx => hW'.lt x (by simpa using hx)
  have hw0 : (d0.weights Try.prog 22).all (· ≤ reachBytes) = true := List.all_eq_true.2 fun m hm => List.all_eq_true.1 hsz m (by simp [DataW.weightsEach, hm])
  have hw1 : (d1.weights Try.prog 3).all (· ≤ reachBytes) = true := List.all_eq_true.2 fun m hm => List.all_eq_true.1 hsz m (by simp [DataW.weightsEach, hm])
  have hw2 : (d2.weights Try.prog 23).all (· ≤ reachBytes) = true := List.all_eq_true.2 fun m hm => List.all_eq_true.1 hsz m (by simp [DataW.weightsEach, hm])
  have k0 := h0
  have k1 := h1
  have k2 := h2
  obtain ⟨a0, w0⟩ := Tu.open_tcalls (hval 0 22 v0 rfl rfl) h0 hw0
  obtain ⟨a1, rfl, rfl, rfl, w1⟩ := open_int Try.underlying3 (hval 1 3 v1 rfl rfl) h1
  obtain ⟨a2, w2⟩ := Tu.open_tints (hval 2 23 v2 rfl rfl) h2 hw2
  clear hA0 hval0
  simp only [List.append_nil] at hW'
  refine (walk W v0 a0 a1 v2 a2 w0 w1 w2).mono fun e W' ⟨he, hg⟩ => ?_
  subst he
  exact ⟨_, rfl, ⟨_, _, _, [], (p0 ++ ([] ++ (p2 ++ []))), [], hW', (trodAll_cons_mk (shut_bool Try.underlying4 _) trodAll_mk0), (trodAll_cons_mk (Below.trod Tu.laidOut (by kernel_rfl) (of_decide_eq_true (by kernel_rfl)) k0 hg (fun x hx => hlt x (by simp [hx]))) (trodAll_cons_mk (Below.trod Tu.laidOut (by kernel_rfl) (of_decide_eq_true (by kernel_rfl)) k1 hg (fun x hx => (nomatch hx))) (trodAll_cons_mk (Below.trod Tu.laidOut (by kernel_rfl) (of_decide_eq_true (by kernel_rfl)) k2 hg (fun x hx => hlt x (by simp [hx]))) trodAll_mk0))), rfl,
    hg.frame _, fun h => by cases h⟩⟩

theorem over : Rows.turnFairRow.holds Try.pinned (OpenSpec.ofChange Rows.turnFairSpec) :=
  OpenClaim.holds_of_wide 3 Try.f3 rfl rfl rfl rfl rfl rfl rfl ⟨rfl, rfl, rfl, rfl, rfl⟩ rfl rfl rfl rfl rfl (by kernel_rfl) Try.func3 (by kernel_rfl)
    (of_decide_eq_true (by kernel_rfl)) (by unfold Func.isWrapper; first | (rw [if_pos (by decide +kernel)]; kernel_rfl) | (rw [if_neg (by decide +kernel)]; exact ⟨rfl, rfl⟩))
    (fun os started H enc _ => lifted os started H enc)

/-- The statement. -/
theorem proved : Rows.TurnFairSaid :=
  over
#print axioms proved
end Go.Proofs.Ytmnbfcmamhinbab.turnFair
