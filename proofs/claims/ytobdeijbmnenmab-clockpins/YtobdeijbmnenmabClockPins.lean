/-
  ClockPins (P12.4): for every number of frames and every list of calls, a frame that is held is never given up, and there is one to be given up just if one is not held; and the fixed run comes out.
-/
import Derived.Test.YtobdeijbmnenmabAwk
namespace Go.Proofs.Ytobdeijbmnenmab.clockPins
open Go.ChangeShapes Go.WideShapes Go.ChangeAt Go.RowKit
open Go.Deep
set_option linter.unusedVariables false
set_option linter.unusedSimpArgs false

theorem own : ownKnob Try.prog.godebug = none := by kernel_rfl

/-- Is a frame not held? -/
def anyF (fs : List Fr) : Bool := fs.any fun y => decide (y.pins = 0)
theorem vict_ok {R : List Fr} {v : Nat} {ok : Bool} {S : List Fr} (h : Vict R v ok S) : ok = anyF R ∧ (ok = true → ∃ x ∈ R, x.no = v ∧ x.pins = 0) := by
  have hv : ∀ {R S : List Fr} {v : Nat}, Vic R v S → ∃ x ∈ R, x.no = v ∧ x.pins = 0 := fun {R S v} q => by
    induction q with
    | hit x T h => exact ⟨x, by simp, rfl, h.1⟩
    | pass x T v S h q ih =>
      obtain ⟨y, hy, e1, e2⟩ := ih
      rcases List.mem_append.1 hy with q | q
      · exact ⟨y, by simp [q], e1, e2⟩
      · simp at q
        subst q
        exact ⟨x, by simp, by rw [← e1, pass_no], by rw [← e2, pass_pins]⟩
  rcases h with ⟨A, x, B, rfl, hA, hx, rfl, rfl, rfl⟩ | ⟨hn, ⟨y, hy, h0⟩, hq, rfl⟩ | ⟨hn, rfl, rfl, rfl⟩
  · have := cf_pins hx
    exact ⟨(List.any_eq_true.2 ⟨x, by simp, by simpa using this.1⟩).symm, fun _ => ⟨x, by simp, rfl, this.1⟩⟩
  · exact ⟨(List.any_eq_true.2 ⟨y, hy, by simpa using h0⟩).symm, fun _ => hv hq⟩
  · exact ⟨(List.any_eq_false.2 fun y hy => by simpa using hn y hy).symm, fun q => by cases q⟩
theorem anyF_ring (fs : List Fr) (h : Nat) : anyF (ring fs h) = anyF fs := by
  unfold anyF ring
  rw [List.any_append, Bool.or_comm, ← List.any_append, List.take_append_drop]
/-- What a frame that is given up is. -/
theorem acted_five {i : Int} {b : Bool} {fs : List Fr} {h : Nat} {z : Int} {ok : Bool} {fs' : List Fr} {h' : Nat} (nos : ∀ (j : Nat) (x : Fr), fs[j]? = some x → x.no = j) (q : Acted 5 i b fs h z ok fs' h') :
    ok = anyF fs ∧ (ok = true → ∃ (v : Nat) (x : Fr), z = v ∧ fs'[v]? = some x ∧ x.pins = 0 ∧ v < fs.length) := by
  rcases q with ⟨_, v, rfl, hv, hs⟩ | ⟨q, _⟩
  · obtain ⟨h1, h2⟩ := vict_ok hv
    rw [anyF_ring] at h1
    refine ⟨h1, fun hok => ?_⟩
    obtain ⟨x, hx, e1, e2⟩ := h2 hok
    obtain ⟨j, hj, rfl⟩ := List.getElem_of_mem (mem_ring.1 hx)
    have e3 := nos j _ (List.getElem?_eq_getElem hj)
    rw [e1] at e3
    subst e3
    obtain ⟨y, hy, _, e4⟩ := hs.2 _ _ (List.getElem?_eq_getElem hj)
    exact ⟨_, y, rfl, hy, e4.trans e2, hj⟩
  · exact absurd rfl q
theorem acted_length {k i : Int} {b : Bool} {fs : List Fr} {h : Nat} {z : Int} {ok : Bool} {fs' : List Fr} {h' : Nat} (q : Acted k i b fs h z ok fs' h') : fs'.length = fs.length := by
  rcases q with ⟨_, v, rfl, hv, hs⟩ | ⟨_, _, _, rfl, _⟩
  · exact hs.1
  · unfold upd
    split
    · split
      · rw [List.length_set]
      · rfl
    · rfl
theorem k12 {n : Int} (h : 0 ≤ n ∧ n ≤ 255) : ∃ m : Nat, n % 12 = m ∧ m < 12 := ⟨(n % 12).toNat, by omega, by omega⟩
set_option maxHeartbeats 1000000 in
theorem walk (w : World) (nn : Int) (v : Value) (cs : List Call) (wf : (Lit.int .u8 nn).wf = true) (hs : Script w v cs) :
    Calls Try.prog 4 #[.int .u8 nn, v] w fun e w' => e = .returned (.bool true) ∧ Below w.heap.size w w' := by
  have hf := bounds_u8 wf
  obtain ⟨m, hm, hm12⟩ := k12 hf
  have e1 : nn.tmod 12 = m := by rw [Int.tmod_eq_emod_of_nonneg hf.1]; exact hm
  have v1 : IntKind.u8.wrap (m : Int) = m := by rw [IntKind.wrap_u8]; omega
  have v2 : IntKind.i64.wrap (m : Int) = m := by rw [IntKind.wrap_i64]; omega
  have v3 : IntKind.i64.wrap (1 + (m : Int)) = ((m + 1 : Nat) : Int) := by rw [IntKind.wrap_i64]; omega
  have hnew := new_some (m + 1) (by omega) (by omega) w
  obtain ⟨oa, cap, rfl, hlen, hcs⟩ := hs
  obtain ⟨n, HN⟩ : ∃ n, Hid (cs.length = n) := ⟨_, rfl⟩
  rw [HN.out] at hcs hlen ⊢
  have HCS : Hid _ := hcs
  obtain ⟨K, HKK⟩ : ∃ K, Hid (m + 1 = K) := ⟨_, rfl⟩
  rw [HKK.out] at v3 hnew
  have hK1 : 1 ≤ K ∧ K ≤ 12 := by have := HKK.out; omega
  have hKa := hK1.1
  have hKb := hK1.2
  clear hcs hf hm hK1
  go_enter Try.func4, Try.ntmps4
  go_wp2_with (first
    | (go_at_call 8; refine hnew.mono ?_; rintro e w1 ⟨g, a, he, hg, ha, c1, b1⟩; obtain rfl := he; have HG : Hid (w.heap.size ≤ g) := hg; have HA : Hid (w.heap.size ≤ a) := ha; clear hg ha))
  have hF : Hid (∀ k, two g a k → w.heap.size ≤ k) := fun k hk => by
    rcases hk with rfl | rfl
    · exact HG.out
    · exact HA.out
  clear e1 v1 v2 v3 hnew
  go_loopw [7] (fun i wr => ∃ (k : Nat) (fs : List Fr) (h : Nat), i = .int .i64 k ∧ k ≤ 80 ∧ Hid (fs.length = K) ∧ CAt wr g a fs h (k : Int) ∧ Below w.heap.size w wr) (fun c _ => 80 - (intOf c).toNat)
  case atStart => exact ⟨0, _, _, rfl, by omega, newF_length K, c1, b1⟩
  case round =>
    clear c1 b1
    obtain ⟨k, fs, h, rfl, hk, HL, D, rb⟩ := hrel
    by_cases hkl : k < n
    · have hkl' : (k : Int) < (n : Int) := by omega
      by_cases hk80 : k < 80
      · have hk80' : (k : Int) < 80 := by omega
        obtain ⟨A, ⟨kd, i, b⟩, hoa, hck, hcell⟩ := HCS.out k hkl
        subst hoa
        obtain ⟨B, HB⟩ : ∃ B, Hid (anyF fs = B) := ⟨_, rfl⟩
        have HCW : Hid (∀ j u, [Value.int .i64 kd, .int .i64 i, .bool b][j]? = some u → w.cell? ((A.add (k * 3)).add j) = some u) := hcell
        clear hcell hck
        go_upto_region 10 with fail
        go_loop [8, 9] (fun f j => ∃ (q : Nat), j = .int .i64 q ∧ q ≤ K ∧ f = .bool (anyF (fs.take q))) (fun _ j => K - (intOf j).toNat)
        case atStart => exact ⟨0, rfl, by omega, by rw [List.take_zero]; rfl⟩
        case round =>
          obtain ⟨q, rfl, hq, rfl⟩ := hrel
          by_cases hqK : q < K
          · have hqK' : (q : Int) < (K : Int) := by omega
            obtain ⟨x, hx⟩ := D.ex (i := q) (by rw [HL.out]; exact hqK)
            have hpi := pins_in D q x hx
            have HS : Hid (anyF (fs.take (q + 1)) = (anyF (fs.take q) || decide (x.pins = 0))) := by
              show _ = _
              unfold anyF
              rw [List.take_add_one, hx, List.any_append]
              simp
            obtain ⟨B0, HB0⟩ : ∃ B0, Hid (anyF (fs.take q) = B0) := ⟨_, rfl⟩
            rw [HB0.out]
            rw [HB0.out] at HS
            clear hx
            cases B0 with
            | true =>
              go_wp2
              go_round
              case rel => exact ⟨q + 1, by go_num, by omega, by rw [HS.out]; rfl⟩
              case measure => simp [intOf]; omega
            | false =>
              go_wp2_with (go_at_call 14; refine hpi.mono ?_; rintro e wb ⟨he, hww⟩; rw [hww]; clear hww wb; obtain rfl := he)
              go_round
              case rel => exact ⟨q + 1, by go_num, by omega, by rw [HS.out, Bool.false_or]; rfl⟩
              case measure => simp [intOf]; omega
          · have hqK' : ¬ (q : Int) < (K : Int) := by omega
            have hfull : anyF (fs.take q) = B := by rw [← HB.out, List.take_of_length_le (by rw [HL.out]; omega)]
            rw [hfull]
            clear hfull
            have hdo := do_any D (by omega) kd i b
            have hcw : ∀ j u, [Value.int .i64 kd, .int .i64 i, .bool b][j]? = some u → wr.cell? ((A.add (k * 3)).add j) = some u := fun j u hj => cell_keep (HCW.out j u hj) rb
            have tl : Hid (1 = 1) := rfl
            go_upto_region 14 with (first
              | (have hh := tl; clear hh tl; refine wpList_load_any rfl 29 (.tmp 46) rfl (A.add (k * 3)) rfl [.int .i64 kd, .int .i64 i, .bool b] _ hcw Try.underlying29 rfl size29 ?_)
              | (go_at_call 11; refine hdo.mono ?_; clear hdo; rintro e w2 ⟨z, ok, fs', h', he, hact, D2, o2⟩; obtain rfl := he))
            clear hcw
            have rb2 : Below w.heap.size w w2 := rb.trans (o2.below rb.size hF.out)
            have HL2 : Hid (fs'.length = K) := (acted_length hact).trans HL.out
            have hc0 : w2.cell? (A.add (k * 3)) = some (.int .i64 kd) := by
              have := cell_keep (HCW.out 0 _ rfl) rb2
              exact this
            by_cases h5 : kd = 5
            · subst h5
              obtain ⟨hok, hfv⟩ := acted_five D.nos hact
              rw [HB.out] at hok
              subst hok
              cases ok with
              | false =>
                clear hfv hact
                go_wp2
                go_roundw
                case rel => exact ⟨k + 1, fs', h', by go_num, by omega, HL2, D2, rb2⟩
                case measure => simp [intOf]; omega
              | true =>
                obtain ⟨vv, x, rfl, hx, h0, hvl⟩ := hfv rfl
                have hpi := pins_in D2 vv x hx
                rw [h0] at hpi
                rw [HL.out] at hvl
                have hvl' : (vv : Int) < (K : Int) := by omega
                clear hact hx hvl
                go_wp2_with (go_at_call 14; refine hpi.mono ?_; rintro e wb ⟨he, hww⟩; rw [hww]; clear hww wb; obtain rfl := he)
                go_roundw
                case rel => exact ⟨k + 1, fs', h', by go_num, by omega, HL2, D2, rb2⟩
                case measure => simp [intOf]; omega
            · clear hact
              go_wp2
              go_roundw
              case rel => exact ⟨k + 1, fs', h', by go_num, by omega, HL2, D2, rb2⟩
              case measure => simp [intOf]; omega
      · have hk80' : ¬ (k : Int) < 80 := by omega
        go_wp2_with (go_at_call 9; refine (awake_any _).mono ?_; rintro e w3 ⟨he, b3⟩; obtain rfl := he)
        go_ret
        exact ⟨rfl, rb.trans (b3.mono rb.size)⟩
    · have hkl' : ¬ (k : Int) < (n : Int) := by omega
      go_wp2_with (go_at_call 9; refine (awake_any _).mono ?_; rintro e w3 ⟨he, b3⟩; obtain rfl := he)
      go_ret
      exact ⟨rfl, rb.trans (b3.mono rb.size)⟩

set_option maxRecDepth 100000 in
theorem lifted (os : Os) (started : os.Started) (H : Type) (enc : TypeId × Value → H) :
    ReturnsInHanded {} Try.checked os 4 .any (Rows.clockPinsSpec.pre6 enc Try.prog Try.f4 Rows.clockPinsRow.domain false) (Rows.clockPinsSpec.post enc Try.prog Try.f4 false true false false) := by
  refine returnsInHanded_of_change_sized (C := Try.checked) own started (by kernel_rfl) Try.func4
    (ChangeSpec.witness6 (enc := enc) (C := Try.checked) false ⟨#[], #[.int .u8 0, .slice none 0 0], []⟩ 8 (by kernel_rfl) (by kernel_rfl) (by kernel_rfl) (by kernel_rfl)) ?_
  intro W base args ds gs before hval0 hW hcnd hsz0 _
  have hval : ∀ (j : Nat) t v, Try.f4.params[j]? = some t → args[j]? = some v → Value.okWide Try.prog W .any base t v := hval0
  have hW' := hW
  obtain ⟨p, q, hA0, hV, rfl, hfz, hnd⟩ := hW
  have hA : DataW.TrodAll enc Try.prog W 0 (fun _ => true) true Try.f4.params.toList args.toList ds p := hA0
  have hsz : (DataW.weightsEach Try.prog (Try.f4.params.toList ++ []) (ds ++ gs)).all (· ≤ reachBytes) = true := hsz0
  rw [Try.params4] at hA hval hsz
  obtain ⟨v0, vs0, d0, ds0, p0, q0, hargs, rfl, rfl, h0, r0⟩ := trodAll_cons hA
  obtain ⟨v1, vs1, d1, ds1, p1, q1, rfl, rfl, rfl, h1, r1⟩ := trodAll_cons r0
  obtain ⟨rfl, rfl, rfl⟩ := trodAll_nil r1
  obtain rfl : args = #[v0, v1] := by cases args; simp_all
  obtain ⟨rfl, rfl⟩ := trodVars_none hV
  simp only [List.append_nil] at hsz
  have hlt : ∀ x ∈ (p0 ++ (p1 ++ [])), x.block < W.heap.size := fun x hx => hW'.lt x (by simpa using hx)
  have hw0 : (d0.weights Try.prog 5).all (· ≤ reachBytes) = true := List.all_eq_true.2 fun m hm => List.all_eq_true.1 hsz m (by simp [DataW.weightsEach, hm])
  have hw1 : (d1.weights Try.prog 22).all (· ≤ reachBytes) = true := List.all_eq_true.2 fun m hm => List.all_eq_true.1 hsz m (by simp [DataW.weightsEach, hm])
  have k0 := h0
  have k1 := h1
  obtain ⟨a0, rfl, rfl, rfl, w0⟩ := open_int Try.underlying5 (hval 0 5 v0 rfl rfl) h0
  obtain ⟨a1, w1⟩ := open_calls (hval 1 22 v1 rfl rfl) h1 hw1
  clear hA0 hval0
  simp only [List.append_nil] at hW'
  refine (walk W a0 v1 a1 w0 w1).mono fun e W' ⟨he, hg⟩ => ?_
  subst he
  exact ⟨_, rfl, ⟨_, _, _, [], ([] ++ (p1 ++ [])), [], hW', (trodAll_cons_mk (shut_bool Try.underlying4 _) trodAll_mk0), (trodAll_cons_mk (Below.trod laidOut (by kernel_rfl) (of_decide_eq_true (by kernel_rfl)) k0 hg (fun x hx => (nomatch hx))) (trodAll_cons_mk (Below.trod laidOut (by kernel_rfl) (of_decide_eq_true (by kernel_rfl)) k1 hg (fun x hx => hlt x (by simp [hx]))) trodAll_mk0)), rfl,
    hg.frame _, fun h => by cases h⟩⟩

theorem over : Rows.clockPinsRow.holds Try.pinned (OpenSpec.ofChange Rows.clockPinsSpec) :=
  OpenClaim.holds_of_wide 4 Try.f4 rfl rfl rfl rfl rfl rfl rfl ⟨rfl, rfl, rfl, rfl, rfl⟩ rfl rfl rfl rfl rfl (by kernel_rfl) Try.func4 (by kernel_rfl)
    (of_decide_eq_true (by kernel_rfl)) (by unfold Func.isWrapper; first | (rw [if_pos (by decide +kernel)]; kernel_rfl) | (rw [if_neg (by decide +kernel)]; exact ⟨rfl, rfl⟩))
    (fun os started H enc _ => lifted os started H enc)

/-- The statement. -/
theorem proved : Rows.ClockPinsSaid :=
  over
#print axioms proved
end Go.Proofs.Ytobdeijbmnenmab.clockPins
