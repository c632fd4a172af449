/-
  TurnOne (P15.3): for every list of calls, at no time two have the turn, somebody has it, if anybody is in the line, and asking again changes nothing; and the fixed run comes out.
-/
import Derived.Test.YtmnbfcmamhinbabTro
namespace Go.Proofs.Ytmnbfcmamhinbab.turnOne
open Go.ChangeShapes Go.WideShapes Go.ChangeAt Go.RowKit
open Go.Deep
set_option linter.unusedVariables false
set_option linter.unusedSimpArgs false

theorem own : ownKnob Try.prog.godebug = none := by kernel_rfl

theorem askL_mem (xs : List Int) (x : Int) : x ∈ Tu.askL xs x := by
  unfold Tu.askL
  split
  · assumption
  · simp
theorem askL_again (xs : List Int) (x : Int) : Tu.askL (Tu.askL xs x) x = Tu.askL xs x := if_pos (askL_mem xs x)
theorem askL_length (xs : List Int) (x : Int) : (Tu.askL xs x).length ≤ xs.length + 1 := by
  unfold Tu.askL
  split
  · omega
  · simp
theorem leaveL_not (xs : List Int) (x : Int) : ¬ x ∈ Tu.leaveL xs x := fun h => by simpa using (List.mem_filter.1 h).2
theorem leaveL_length (xs : List Int) (x : Int) : (Tu.leaveL xs x).length ≤ xs.length := List.length_filter_le _ _
theorem hasF_not {xs : List Int} {x : Int} (h : ¬ x ∈ xs) : Tu.hasF xs x = false := by
  cases xs with
  | nil => rfl
  | cons y r =>
    show (y == x) = false
    have : ¬ y = x := fun e => h (by simp [e])
    simpa using this
theorem hasF_at {xs : List Int} (h : xs.Nodup) {j : Nat} {x : Int} (hj : xs[j]? = some x) : Tu.hasF xs x = decide (j = 0) := by
  cases xs with
  | nil => simp at hj
  | cons y r =>
    show (y == x) = _
    cases j with
    | zero => simp at hj; simp [hj]
    | succ k =>
      have hx : x ∈ r := List.mem_of_getElem? (by simpa using hj)
      have : ¬ y = x := fun e => (List.nodup_cons.1 h).1 (e ▸ hx)
      simpa using this
theorem leaveL_first {x : Int} {r : List Int} (h : (x :: r).Nodup) : Tu.leaveL (x :: r) x = r := by
  have := Tu.leaveL_split (A := []) h
  simpa using this
set_option maxHeartbeats 4000000 in
set_option maxRecDepth 20000 in
theorem walk (w : World) (vs : Value) (cs : List Tu.Call) (hs : Tu.Script w vs cs) : Calls Try.prog 4 #[vs] w fun e w' => e = .returned (.bool true) ∧ Below w.heap.size w w' := by
  obtain ⟨oa, cap0, rfl, hlen, hcs⟩ := hs
  obtain ⟨m, HN⟩ : ∃ m, Hid (cs.length = m) := ⟨_, rfl⟩
  rw [HN.out] at hcs hlen ⊢
  have HCS : Hid _ := hcs
  clear hcs
  have hnew := Tu.new_any w
  have hz27 := Tu.zero27
  go_enter Try.func4, Try.ntmps4
  go_upto_block 0 with (go_at_call 9; refine hnew.mono ?_; clear hnew; rintro e w1 ⟨t, he, ht, c1, b1⟩; obtain rfl := he; have HT : Hid (w.heap.size ≤ t) := ht; clear ht)
  have hF : Hid (∀ k, t ≤ k → w.heap.size ≤ k) := fun k hk => Nat.le_trans HT.out hk
  go_wp2_with fail
  go_loopw [4] (fun i wr => ∃ (k : Nat) (xs : List Int) (v : Value), i = .int .i64 k ∧ k ≤ 60 ∧ xs.length ≤ k ∧ Tu.TAt wr t v xs ∧ Below w.heap.size w wr) (fun i _ => 60 - (intOf i).toNat)
  case atStart => exact ⟨0, [], _, rfl, by omega, by simp, c1, b1⟩
  case round =>
    clear c1 b1
    obtain ⟨k, xs, v, rfl, hk, hxk, C, rb⟩ := hrel
    by_cases hkl : k < m
    · have hkl' : (k : Int) < (m : Int) := by omega
      by_cases hk60 : k < 60
      · have hk60' : (k : Int) < 60 := by omega
        obtain ⟨A, ⟨kd, x⟩, hoa, hck, hok, hcell⟩ := HCS.out k hkl
        subst hoa
        have hcw : ∀ j u, [Value.int .i64 kd, .int .i64 x][j]? = some u → wr.cell? ((A.add (k * 2)).add j) = some u := fun j u hj => cell_keep (hcell j u hj) rb
        clear hcell hck
        have z0 : Row (wr.alloc (.cells #[.int .i64 0, .int .i64 0] 27)) wr.heap.size #[.int .i64 0, .int .i64 0] 27 := Row.new _ _ _
        have rO : Row ((wr.alloc (.cells #[.int .i64 0, .int .i64 0] 27)).setRow wr.heap.size #[.int .i64 kd, .int .i64 x]) wr.heap.size #[.int .i64 kd, .int .i64 x] 27 := z0.set _
        have b2 : Below wr.heap.size wr ((wr.alloc (.cells #[.int .i64 0, .int .i64 0] 27)).setRow wr.heap.size #[.int .i64 kd, .int .i64 x]) := Tu.below_setRow ((Below.refl _ _).alloc (Nat.le_refl _) _) (Nat.le_refl _) _
        have c2 := C.below b2
        have rb2 := rb.trans (b2.mono rb.size)
        have k0 := row_at rO 0 (.int .i64 kd) rfl
        have k1 := row_at rO 1 (.int .i64 x) rfl
        have HTW : Hid (t < wr.heap.size) := C.row.lt
        clear C b2
        have tl : Hid (1 = 1) := rfl
        have ts : Hid (1 = 1) := rfl
        go_upto_if 30 with (first
          | (have hh := tl; clear hh tl; refine wpList_load_any rfl 27 (.tmp 26) rfl (A.add (k * 2)) rfl [.int .i64 kd, .int .i64 x] _ hcw Try.underlying27 rfl Tu.size27 ?_)
          | (have hh := ts; clear hh ts; refine store_cells rfl 27 (.tmp 5) (.tmp 27) rfl wr.heap.size #[.int .i64 kd, .int .i64 x] rfl rfl 27 _ z0 2 Tu.size27 rfl rfl (by simp [Value.oneCell']) ?_))
        clear hcw z0
        go_cut [6, 7] from 14 to 87 (fun a1 a2 wx => ∃ (ys : List Int) (v2 : Value), Tu.TAt wx t v2 ys ∧ Below w.heap.size w wx ∧ ys.length ≤ k + 1)
        case first =>
          by_cases h0 : kd = 0
          · subst h0
            have ha := Tu.ask_any c2 x (by omega)
            have HA2 : Hid (∀ w' v', Tu.TAt w' t v' (Tu.askL xs x) → Calls Try.prog 10 #[.pointer (some ⟨t, 0, none⟩), .int .i64 x] w' fun e w2 => Tu.Asked w' t v' (Tu.askL xs x) x e w2) := fun w' v' c' => Tu.ask_any c' x (by have := askL_length xs x; omega)
            unfold Tu.Asked at ha HA2
            rw [askL_again] at HA2
            have HLN : Hid (∀ w' v', Tu.TAt w' t v' (Tu.askL xs x) → Calls Try.prog 12 #[.pointer (some ⟨t, 0, none⟩)] w' fun e w2 => Tu.Told w' (Tu.askL xs x) e w2) := fun w' v' c' => Tu.line_any c'
            obtain ⟨N, HNN⟩ : ∃ N, Hid ((Tu.askL xs x).length = N) := ⟨_, rfl⟩
            have hN0 : ¬ (N : Int) = 0 := by have := List.length_pos_of_mem (askL_mem xs x); rw [HNN.out] at this; omega
            obtain ⟨b, HB⟩ : ∃ b, Hid (Tu.hasF (Tu.askL xs x) x = b) := ⟨_, rfl⟩
            rw [HB.out] at ha HA2
            have HLEN : Hid _ := askL_length xs x
            obtain ⟨ys, HYS⟩ : ∃ ys, Hid (Tu.askL xs x = ys) := ⟨_, rfl⟩
            rw [HYS.out] at ha HA2 HLN HNN HLEN
            have t1 : Hid (1 = 1) := rfl
            have hFT : Hid (∀ j, t ≤ j → ¬ j = wr.heap.size → True) := fun _ _ _ => trivial
            go_wp2_with (first
              | (have hh := t1; clear hh t1; go_at_call 10; refine ha.mono ?_; clear ha; rintro e w3 ⟨he, v3, c3, o3⟩; obtain rfl := he; have rb3 := rb2.trans (o3.below rb2.size (fun j q => hF.out j (c2.foot_le q))); have rO3 : Row w3 wr.heap.size #[.int .i64 0, .int .i64 x] 27 := rO.off o3 (c2.foot_not rO (by omega) (by omega)); clear c2 rb2 rO o3; have c2 := c3; have rb2 := rb3; have rO := rO3; clear c3 rb3 rO3; have k1 := row_at rO 1 (.int .i64 x) rfl)
              | (go_at_call 10; refine (HA2.out _ _ c2).mono ?_; clear HA2; rintro e w3 ⟨he, v3, c3, o3⟩; obtain rfl := he; have rb3 := rb2.trans (o3.below rb2.size (fun j q => hF.out j (c2.foot_le q))); clear c2 rb2 rO o3; have c2 := c3; have rb2 := rb3; clear c3 rb3)
              | (go_at_call 12; refine (HLN.out _ _ c2).mono ?_; rintro e w3 ⟨v3, he, own3, bn⟩; obtain ⟨oa3, cap3, hv3⟩ := own3.form; rw [HNN.out] at hv3; subst hv3; obtain rfl := he; clear own3; have c2n := c2.below bn; have rb2n := rb2.trans (bn.mono rb2.size); clear c2 rb2; have c2 := c2n; have rb2 := rb2n; clear c2n rb2n; try (have rOn := rO.below bn rO.lt; clear rO; have rO := rOn; clear rOn; have k1 := row_at rO 1 (.int .i64 x) rfl); clear bn))
            go_meet
            case rel => exact ⟨ys, _, c2, rb2, by have := HLEN.out; omega⟩
          · have hl := Tu.leave_any c2 x
            have HL2 : Hid (∀ w' v', Tu.TAt w' t v' (Tu.leaveL xs x) → Calls Try.prog 11 #[.pointer (some ⟨t, 0, none⟩), .int .i64 x] w' fun e w2 => Tu.Left w' t v' (Tu.leaveL xs x) x e w2) := fun w' v' c' => Tu.leave_any c' x
            unfold Tu.Left at hl HL2
            have eb : decide (x ∈ Tu.leaveL xs x) = false := by simp [leaveL_not xs x]
            rw [eb] at HL2
            have el : Tu.leaveL (Tu.leaveL xs x) x = Tu.leaveL xs x := List.filter_eq_self.2 fun y hy => by
              have := leaveL_not xs x
              simp
              rintro rfl
              exact this hy
            rw [el] at HL2
            have HH : Hid (∀ w' v', Tu.TAt w' t v' (Tu.leaveL xs x) → Calls Try.prog 13 #[.pointer (some ⟨t, 0, none⟩), .int .i64 x] w' fun e w2 => e = .returned (.bool false) ∧ w2 = w') := fun w' v' c' => by
              have := Tu.has_any c' x
              rw [hasF_not (leaveL_not xs x)] at this
              exact this
            obtain ⟨b, HB⟩ : ∃ b, Hid (decide (x ∈ xs) = b) := ⟨_, rfl⟩
            rw [HB.out] at hl
            have HLEN : Hid _ := leaveL_length xs x
            obtain ⟨ys, HYS⟩ : ∃ ys, Hid (Tu.leaveL xs x = ys) := ⟨_, rfl⟩
            rw [HYS.out] at hl HL2 HH HLEN
            clear eb el
            have t1 : Hid (1 = 1) := rfl
            go_wp2_with (first
              | (have hh := t1; clear hh t1; go_at_call 11; refine hl.mono ?_; clear hl; rintro e w3 ⟨he, v3, c3, o3, _⟩; obtain rfl := he; have rb3 := rb2.trans (o3.below rb2.size (fun j q => hF.out j (c2.foot_le q))); have rO3 : Row w3 wr.heap.size #[.int .i64 kd, .int .i64 x] 27 := rO.off o3 (c2.foot_not rO (by omega) (by omega)); clear c2 rb2 rO o3; have c2 := c3; have rb2 := rb3; have rO := rO3; clear c3 rb3 rO3; have k1 := row_at rO 1 (.int .i64 x) rfl)
              | (go_at_call 11; refine (HL2.out _ _ c2).mono ?_; clear HL2; rintro e w3 ⟨he, v3, c3, o3, _⟩; obtain rfl := he; have rb3 := rb2.trans (o3.below rb2.size (fun j q => hF.out j (c2.foot_le q))); clear c2 rb2 rO o3; have c2 := c3; have rb2 := rb3; clear c3 rb3)
              | (go_at_call 13; refine (HH.out _ _ c2).mono ?_; clear HH; rintro e wb ⟨he, hww⟩; rw [hww]; clear hww wb; obtain rfl := he))
            go_meet
            case rel => exact ⟨ys, _, c2, rb2, by have := HLEN.out; omega⟩
        case rest =>
          clear c2 rb2 rO k0 k1
          obtain ⟨ys, v2, c2, rb2, hy1⟩ := hcut
          have hln := Tu.line_any c2
          obtain ⟨N, HNN⟩ : ∃ N, Hid (ys.length = N) := ⟨_, rfl⟩
          have hN : N ≤ k + 1 := by rw [← HNN.out]; exact hy1
          go_upto_block 2 with (go_at_call 12; refine hln.mono ?_; clear hln; rintro e w3 ⟨v3, he, own3, bn⟩; obtain ⟨oa3, cap3, hv3⟩ := own3.form; rw [HNN.out] at hv3; subst hv3; obtain rfl := he; have c2n := c2.below bn; have rb2n := rb2.trans (bn.mono rb2.size); clear c2 rb2 bn; have c2 := c2n; have rb2 := rb2n; clear c2n rb2n)
          have HCL : Hid (∀ j, j < N → ∃ g y, oa3 = some ⟨g, 0, none⟩ ∧ ys[j]? = some y ∧ w3.cell? ⟨g, j, none⟩ = some (.int .i64 y)) := fun j hj => by
            obtain ⟨g, cp, e, _⟩ := own3.blk (by rw [HNN.out]; omega)
            cases e
            have hx := List.getElem?_eq_getElem (by rw [HNN.out]; exact hj : j < ys.length)
            exact ⟨g, _, rfl, hx, (own3.cell j _ hx).1⟩
          clear own3
          go_wp2_with fail
          go_loopw [8, 72] (fun a i wi => ∃ (j : Nat), a = .int .i64 (min 1 j : Nat) ∧ i = .int .i64 j ∧ j ≤ N ∧ wi = w3) (fun _ i _ => N - (intOf i).toNat)
          case atStart => exact ⟨0, rfl, rfl, by omega, rfl⟩
          case round =>
            obtain ⟨j, rfl, rfl, hj, hww⟩ := hrel
            obtain rfl := hww
            by_cases hjn : j < N
            · have hjn' : (j : Int) < (N : Int) := by omega
              obtain ⟨g3, y, hoa, hy, hcell⟩ := HCL.out j hjn
              subst hoa
              have hh := Tu.has_any c2 y
              rw [hasF_at c2.one hy] at hh
              by_cases hj0 : j = 0
              · subst hj0
                rw [decide_eq_true rfl] at hh
                go_wp2_with (go_at_call 13; refine hh.mono ?_; clear hh; rintro e wb ⟨he, hww⟩; rw [hww]; clear hww wb; obtain rfl := he)
                go_roundw
                case rel => exact ⟨1, rfl, rfl, by omega, by first | rfl | trivial⟩
                case measure => simp [intOf]; omega
              · have e1 : min 1 j = 1 := by omega
                have e2 : min 1 (j + 1) = 1 := by omega
                rw [decide_eq_false hj0] at hh
                rw [e1]
                go_wp2_with (go_at_call 13; refine hh.mono ?_; clear hh; rintro e wb ⟨he, hww⟩; rw [hww]; clear hww wb; obtain rfl := he)
                go_roundw
                case rel => exact ⟨j + 1, by first | (rw [e2]; done) | (rw [e2]; rfl), by go_num, by omega, by first | rfl | trivial⟩
                case measure => simp [intOf]; omega
            · have hjn' : ¬ (j : Int) < (N : Int) := by omega
              obtain rfl : j = N := by omega
              have hln := Tu.line_any c2
              have hmn : ¬ ((min 1 j : Nat) : Int) < 0 := by omega
              by_cases hj0 : j = 0
              · subst hj0
                go_wp2_with (go_at_call 12; refine hln.mono ?_; clear hln; rintro e w4 ⟨v4, he, own4, bn⟩; obtain ⟨oa4, cap4, hv4⟩ := own4.form; rw [HNN.out] at hv4; subst hv4; obtain rfl := he; clear own4; have c4 := c2.below bn; have rb4 := rb2.trans (bn.mono rb2.size); clear bn)
                go_roundw
                case rel => exact ⟨k + 1, ys, _, by go_num, by omega, by rw [HNN.out]; omega, c4, rb4⟩
                case measure => simp [intOf]; omega
              · have e1 : min 1 j = 1 := by omega
                have e3 : ¬ (j : Int) < 1 := by omega
                rw [e1]
                go_wp2_with (go_at_call 12; refine hln.mono ?_; clear hln; rintro e w4 ⟨v4, he, own4, bn⟩; obtain ⟨oa4, cap4, hv4⟩ := own4.form; rw [HNN.out] at hv4; subst hv4; obtain rfl := he; clear own4; have c4 := c2.below bn; have rb4 := rb2.trans (bn.mono rb2.size); clear bn)
                go_roundw
                case rel => exact ⟨k + 1, ys, _, by go_num, by omega, by rw [HNN.out]; omega, c4, rb4⟩
                case measure => simp [intOf]; omega
      · have hk60' : ¬ (k : Int) < 60 := by omega
        go_wp2_with (go_at_call 14; refine (Tu.awake_any _).mono ?_; rintro e w5 ⟨he, b5⟩; obtain rfl := he)
        go_ret
        exact ⟨rfl, rb.trans (b5.mono rb.size)⟩
    · have hkl' : ¬ (k : Int) < (m : Int) := by omega
      go_wp2_with (go_at_call 14; refine (Tu.awake_any _).mono ?_; rintro e w5 ⟨he, b5⟩; obtain rfl := he)
      go_ret
      exact ⟨rfl, rb.trans (b5.mono rb.size)⟩

set_option maxRecDepth 100000 in
theorem lifted (os : Os) (started : os.Started) (H : Type) (enc : TypeId × Value → H) :
    ReturnsInHanded {} Try.checked os 4 .any (Rows.turnOneSpec.pre6 enc Try.prog Try.f4 Rows.turnOneRow.domain false) (Rows.turnOneSpec.post enc Try.prog Try.f4 false true false false) := by
  refine returnsInHanded_of_change_sized (C := Try.checked) own started (by kernel_rfl) Try.func4
    (ChangeSpec.witness6 (enc := enc) (C := Try.checked) false ⟨#[], #[.slice none 0 0], []⟩ 8 (by kernel_rfl) (by kernel_rfl) (by kernel_rfl) (by kernel_rfl)) ?_
  intro W base args ds gs before hval0 hW hcnd hsz0 _
  have hval : ∀ (j : Nat) t v, Try.f4.params[j]? = some t → args[j]? = some v → Value.okWide Try.prog W .any base t v := hval0
  have hW' := hW
  obtain ⟨p, q, hA0, hV, rfl, hfz, hnd⟩ := hW
  have hA : DataW.TrodAll enc Try.prog W 0 (fun _ => true) true Try.f4.params.toList args.toList ds p := hA0
  have hsz : (DataW.weightsEach Try.prog (Try.f4.params.toList ++ []) (ds ++ gs)).all (· ≤ reachBytes) = true := hsz0
  rw [Try.params4] at hA hval hsz
  obtain ⟨v0, vs0, d0, ds0, p0, q0, hargs, rfl, rfl, h0, r0⟩ := trodAll_cons hA
  obtain ⟨rfl, rfl, rfl⟩ := trodAll_nil r0
  obtain rfl : args = #[v0] := by cases args; simp_all
  obtain ⟨rfl, rfl⟩ := trodVars_none hV
  simp only [List.append_nil] at hsz
  have hlt : ∀ x ∈ (p0 ++ []), x.block < W.heap.size := fun x hx => hW'.lt x (by simpa using hx)
  have hw0 : (d0.weights Try.prog 22).all (· ≤ reachBytes) = true := List.all_eq_true.2 fun m hm => List.all_eq_true.1 hsz m (by simp [DataW.weightsEach, hm])
  have k0 := h0
  obtain ⟨a0, w0⟩ := Tu.open_tcalls (hval 0 22 v0 rfl rfl) h0 hw0
  clear hA0 hval0
  simp only [List.append_nil] at hW'
  refine (walk W v0 a0 w0).mono fun e W' ⟨he, hg⟩ => ?_
  subst he
  exact ⟨_, rfl, ⟨_, _, _, [], (p0 ++ []), [], hW', (trodAll_cons_mk (shut_bool Try.underlying4 _) trodAll_mk0), (trodAll_cons_mk (Below.trod Tu.laidOut (by kernel_rfl) (of_decide_eq_true (by kernel_rfl)) k0 hg (fun x hx => hlt x (by simp [hx]))) trodAll_mk0), rfl,
    hg.frame _, fun h => by cases h⟩⟩

theorem over : Rows.turnOneRow.holds Try.pinned (OpenSpec.ofChange Rows.turnOneSpec) :=
  OpenClaim.holds_of_wide 4 Try.f4 rfl rfl rfl rfl rfl rfl rfl ⟨rfl, rfl, rfl, rfl, rfl⟩ rfl rfl rfl rfl rfl (by kernel_rfl) Try.func4 (by kernel_rfl)
    (of_decide_eq_true (by kernel_rfl)) (by unfold Func.isWrapper; first | (rw [if_pos (by decide +kernel)]; kernel_rfl) | (rw [if_neg (by decide +kernel)]; exact ⟨rfl, rfl⟩))
    (fun os started H enc _ => lifted os started H enc)

/-- The statement. -/
theorem proved : Rows.TurnOneSaid :=
  over
#print axioms proved
end Go.Proofs.Ytmnbfcmamhinbab.turnOne
