/-
  Proved: for every first number, every list of starts and every end the Go function varvelaw10.RingKeeps returns true and leaves its arguments as they were; no condition.
-/
import Derived.Test.YtbpaffjoedihbabOpn
namespace Go.Proofs.Ytbpaffjoedihbab.ringKeeps
open Go.ChangeShapes Go.WideShapes Go.ChangeAt Go.RowKit
open Go.Deep
set_option linter.unusedVariables false
set_option linter.unusedSimpArgs false

theorem own : ownKnob Try.prog.godebug = none := by kernel_rfl

theorem kp_length (os : List O) (e : Int) : (kp os e).length ≤ os.length := (List.takeWhile_sublist _).length_le
set_option maxRecDepth 20000 in
set_option maxHeartbeats 4000000 in
theorem walk (w : World) (first : Int) (v : Value) (os : List O) (e : Int) (wf : (Lit.int .u32 first).wf = true) (ho : Olds w v os) (we : (Lit.int .u64 e).wf = true) :
    Calls Try.prog 3 #[.int .u32 first, v, .int .u64 e] w fun ex w' => ex = .returned (.bool true) ∧ Below w.heap.size w w' := by
  have hf := bounds_u32 wf
  clear wf we
  obtain ⟨oa, cap, rfl, _⟩ := ho.open
  obtain ⟨n, HN⟩ : ∃ n, Hid (os.length = n) := ⟨_, rfl⟩
  have HO : Hid (Olds w (.slice oa n cap) os) := by show Olds _ _ _; rw [← HN.out]; exact ho
  clear ho
  rw [HN.out]
  by_cases hn : n > 100
  · have hn' : (n : Int) > 100 := by omega
    go_enter Try.func3, Try.ntmps3
    go_wp2_with (go_at_call 4; refine (awake_any _).mono ?_; rintro e w2 ⟨rfl, b2⟩)
    go_ret
    exact ⟨rfl, b2⟩
  have hn' : ¬ (n : Int) > 100 := by omega
  have hn1 : os.length ≤ 100 := by rw [HN.out]; omega
  have HR : Hid (∀ ty, _) := fun ty => run_copy w ty (.slice oa n cap) os HO.out (by omega)
  go_enter Try.func3, Try.ntmps3
  go_upto_region 4 with (at_builtin; refine wpList_copy rfl (.tmp 17) (.tmp 18) 23 rfl _ _ rfl rfl (T := fun v' w' => Own w' w.heap.size v' os ∧ Below w.heap.size w w') (fun ty => HR.out ty) ?_; rintro v1 w1 ⟨o1, b1⟩)
  clear HR
  obtain ⟨oa1, cap1, rfl⟩ := o1.form
  rw [HN.out] at o1 ⊢
  have HG : Hid (∀ g, (Value.slice oa1 n cap1).ownBlock = some g → g < w1.heap.size) := fun g hg => (World.ownsRow.lt o1 g hg).2
  have HK : Hid _ := keep_any first e (.slice oa1 n cap1) os w1 _ o1 hn1 hf
  have HO1 : Hid _ := o1
  clear o1
  go_upto_region 5 with (go_at_call 5; refine Calls.mono HK.out ?_; rintro ex w2 ⟨v2, rfl, o2, b2⟩)
  clear HK
  have b12 : Below w.heap.size w w2 := b1.trans (b2.mono b1.size)
  have o12 : Hid (Own w2 w.heap.size (.slice oa1 n cap1) os) := Own.keep HO1.out b2
  have HS : Hid _ := same_any (.slice oa1 n cap1) (.slice oa n cap) os w2 (Own.olds o12.out) (Olds.keep HO.out b12) (by omega)
  have HO2 : Hid (Own w2 w1.heap.size v2 (kp os e)) := o2
  clear o2
  go_upto_region 7 with (go_at_call 6; refine Calls.mono HS.out ?_; rintro ex w3 ⟨rfl, b3⟩)
  clear HS
  have b13 : Below w.heap.size w w3 := b12.trans (b3.mono b12.size)
  have o13 : Hid (Own w3 w.heap.size (.slice oa1 n cap1) os) := Own.keep o12.out b3
  have o23 : Hid (Own w3 w1.heap.size v2 (kp os e)) := Own.keep HO2.out b3
  clear o12 HO2 HO1 b2 b12 b3
  go_wp2
  go_loopw [33] (fun d wr => ∃ (k : Nat), d = .int .i64 k ∧ k ≤ n ∧ Below w.heap.size w wr ∧ Hid (∃ os' : List O, os'.length = n ∧ Own wr w.heap.size (.slice oa1 n cap1) os') ∧ Hid (Own wr w1.heap.size v2 (kp os e))) (fun d _ => n - (intOf d).toNat)
  case atStart => exact ⟨0, rfl, by omega, b13, ⟨os, HN.out, o13.out⟩, o23⟩
  case round =>
    clear b13 o13 o23
    obtain ⟨k, rfl, hk, rb, r1, r2⟩ := hrel
    by_cases hkn : k < n
    · have hkn' : (k : Int) < (n : Int) := by omega
      obtain ⟨os', hl', ro⟩ := r1.out
      obtain ⟨g, cp, hsl, hg⟩ := ro.blk (by omega)
      rw [hl'] at hsl
      cases hsl
      have hg1 : g < w1.heap.size := HG.out g rfl
      have ht := ro.there k (by omega) 1 (by omega)
      obtain ⟨os2, hl2, ro2⟩ := ro.put1 k (by omega) 1099511627776
      have R1 : Hid (∃ os' : List O, os'.length = n ∧ Own (wr.setCell ⟨g, k * 2 + 1, none⟩ (.int .u64 1099511627776)) w.heap.size (.slice (some ⟨g, 0, none⟩) n cap1) os') := ⟨os2, by omega, ro2⟩
      have R2 : Hid (Own (wr.setCell ⟨g, k * 2 + 1, none⟩ (.int .u64 1099511627776)) w1.heap.size v2 (kp os e)) := Own.other r2.out g (k * 2 + 1) _ hg1
      have RB := rb.setCell (p := ⟨g, k * 2 + 1, none⟩) hg (.int .u64 1099511627776)
      obtain ⟨hc, hfz⟩ := ht
      obtain ⟨cv, hcv⟩ := Option.isSome_iff_exists.1 hc
      have HL : Hid (os'.length = n) := hl'
      clear hl' hl2 ro ro2 hc r1 r2
      go_wp2
      go_roundw
      case rel => exact ⟨k + 1, by go_num, by omega, RB, R1, R2⟩
      case measure => simp [intOf]; omega
    · obtain rfl : k = n := by omega
      have hkn' : ¬ (k : Int) < (k : Int) := by omega
      have HKL : Hid ((kp os e).length ≤ 1000000000) := Nat.le_trans (kp_length os e) (by omega)
      have HRK : Hid _ := rkeep_any first e (.slice oa k cap) os wr (Olds.keep HO.out rb) hn1 hf
      go_wp2_with (first
        | (go_at_call 7; refine Calls.mono HRK.out ?_; clear HRK; rintro ex w4 ⟨v4, rfl, o4, b4⟩
           have HS : Hid _ := same_any v2 v4 (kp os e) w4 (Olds.keep (Own.olds r2.out) b4) (Own.olds o4) HKL.out
           have rb4 := rb.trans (b4.mono rb.size)
           clear o4 b4)
        | (go_at_call 6; refine Calls.mono HS.out ?_; clear HS; rintro ex w5 ⟨rfl, b5⟩)
        | (go_at_call 4; refine (awake_any _).mono ?_; rintro ex w6 ⟨rfl, b6⟩))
      go_ret
      have rb5 := rb4.trans (b5.mono rb4.size)
      exact ⟨rfl, rb5.trans (b6.mono rb5.size)⟩

set_option maxRecDepth 100000 in
theorem lifted (os : Os) (started : os.Started) (H : Type) (enc : TypeId × Value → H) :
    ReturnsInHanded {} Try.checked os 3 .any (Rows.ringKeepsSpec.pre6 enc Try.prog Try.f3 Rows.ringKeepsRow.domain false) (Rows.ringKeepsSpec.post enc Try.prog Try.f3 false true false false) := by
  refine returnsInHanded_of_change_sized (C := Try.checked) own started (by kernel_rfl) Try.func3
    (ChangeSpec.witness6 (enc := enc) (C := Try.checked) false ⟨#[], #[.int .u32 0, .slice none 0 0, .int .u64 0], []⟩ 8 (by kernel_rfl) (by kernel_rfl) (by kernel_rfl) (by kernel_rfl)) ?_
  intro W base args ds gs before hval0 hW hcnd hsz0 _
  have hval : ∀ (j : Nat) t v, Try.f3.params[j]? = some t → args[j]? = some v → Value.okWide Try.prog W .any base t v := hval0
  have hW' := hW
  obtain ⟨p, q, hA0, hV, rfl, hfz, hnd⟩ := hW
  have hA : DataW.TrodAll enc Try.prog W 0 (fun _ => true) true Try.f3.params.toList args.toList ds p := hA0
  have hsz : (DataW.weightsEach Try.prog (Try.f3.params.toList ++ []) (ds ++ gs)).all (· ≤ reachBytes) = true := hsz0
  rw [Try.params3] at hA hval hsz
  obtain ⟨v0, vs0, d0, ds0, p0, q0, hargs, rfl, rfl, h0, r0⟩ := trodAll_cons hA
  obtain ⟨v1, vs1, d1, ds1, p1, q1, rfl, rfl, rfl, h1, r1⟩ := trodAll_cons r0
  obtain ⟨v2, vs2, d2, ds2, p2, q2, rfl, rfl, rfl, h2, r2⟩ := trodAll_cons r1
  obtain ⟨rfl, rfl, rfl⟩ := trodAll_nil r2
  obtain rfl : args = #[v0, v1, v2] := by cases args; simp_all
  obtain ⟨rfl, rfl⟩ := trodVars_none hV
  simp only [List.append_nil] at hsz
  have hlt : ∀ x ∈ (p0 ++ (p1 ++ (p2 ++ []))), x.block < W.heap.size := fun x hx => hW'.lt x (by simpa using hx)
  have hw0 : (d0.weights Try.prog 22).all (· ≤ reachBytes) = true := List.all_eq_true.2 fun m hm => List.all_eq_true.1 hsz m (by simp [DataW.weightsEach, hm])
  have hw1 : (d1.weights Try.prog 23).all (· ≤ reachBytes) = true := List.all_eq_true.2 fun m hm => List.all_eq_true.1 hsz m (by simp [DataW.weightsEach, hm])
  have hw2 : (d2.weights Try.prog 24).all (· ≤ reachBytes) = true := List.all_eq_true.2 fun m hm => List.all_eq_true.1 hsz m (by simp [DataW.weightsEach, hm])
  have k0 := h0
  have k1 := h1
  have k2 := h2
  obtain ⟨a0, rfl, rfl, rfl, w0⟩ := open_int Try.underlying22 (hval 0 22 v0 rfl rfl) h0
  obtain ⟨a1, w1⟩ := open_starts (hval 1 23 v1 rfl rfl) h1 hw1
  obtain ⟨a2, rfl, rfl, rfl, w2⟩ := open_int Try.underlying24 (hval 2 24 v2 rfl rfl) h2
  clear hA0 hval0
  simp only [List.append_nil] at hW'
  refine (walk W a0 v1 a1 a2 w0 w1 w2).mono fun e W' ⟨he, hg⟩ => ?_
  subst he
  exact ⟨_, rfl, ⟨_, _, _, [], ([] ++ (p1 ++ ([] ++ []))), [], hW', (trodAll_cons_mk (shut_bool Try.underlying4 _) trodAll_mk0), (trodAll_cons_mk (Below.trod laidOut (by kernel_rfl) (of_decide_eq_true (by kernel_rfl)) k0 hg (fun x hx => (nomatch hx))) (trodAll_cons_mk (Below.trod laidOut (by kernel_rfl) (of_decide_eq_true (by kernel_rfl)) k1 hg (fun x hx => hlt x (by simp [hx]))) (trodAll_cons_mk (Below.trod laidOut (by kernel_rfl) (of_decide_eq_true (by kernel_rfl)) k2 hg (fun x hx => (nomatch hx))) trodAll_mk0))), rfl,
    hg.frame _, fun h => by cases h⟩⟩

theorem over : Rows.ringKeepsRow.holds Try.pinned (OpenSpec.ofChange Rows.ringKeepsSpec) :=
  OpenClaim.holds_of_wide 3 Try.f3 rfl rfl rfl rfl rfl rfl rfl ⟨rfl, rfl, rfl, rfl, rfl⟩ rfl rfl rfl rfl rfl (by kernel_rfl) Try.func3 (by kernel_rfl)
    (of_decide_eq_true (by kernel_rfl)) (by unfold Func.isWrapper; first | (rw [if_pos (by decide +kernel)]; kernel_rfl) | (rw [if_neg (by decide +kernel)]; exact ⟨rfl, rfl⟩))
    (fun os started H enc _ => lifted os started H enc)

/-- The statement. -/
theorem proved : Rows.RingKeepsSaid :=
  over
#print axioms proved
end Go.Proofs.Ytbpaffjoedihbab.ringKeeps
