/-
  HistChecks: what any history shows is what the document says, or it is none. No conditions.
-/
import Derived.Test.YtdlllnkcjfpajaaJq23
import Derived.Test.YtdlllnkcjfpajaaJq16
namespace Go.Proofs.Ytdlllnkcjfpajaa.histChecks
open Go.ChangeShapes Go.WideShapes Go.ChangeAt Go.RowKit
open Go.Deep
set_option linter.unusedVariables false
set_option linter.unusedSimpArgs false
theorem own : ownKnob Try.prog.godebug = none := by kernel_rfl
set_option maxRecDepth 20000 in
set_option maxHeartbeats 8000000 in
theorem walk (w : World) (v0 : Value) (a0 : List Hm) (p0 : Pasts w v0 a0) :
    Calls Try.prog 3 #[v0] w fun e w' => e = .returned (.bool true) ∧ Below w.heap.size w w' := by
  have hf0 := p0.copied
  have HFO : Hid (∀ w', Below w.heap.size w w' → (fun e w' => e = Ending.returned (.bool true) ∧ Below w.heap.size w w') (.returned (.bool true)) w') := fun w' h => ⟨rfl, h⟩
  generalize (fun e w' => e = Ending.returned (.bool true) ∧ Below w.heap.size w w') = PP at HFO ⊢
  have HF0 : Hid (∀ e w', Fewed w a0 e w' → ∃ v qs, e = .returned v ∧ Helds w' v qs ∧ qs.map Hm.p = (a0.take 9).map (fun h => cutP h.p) ∧ Below w.heap.size w w' ∧ Pa.Own w' w.heap.size v (qs.map Hm.o) ∧ ∀ h ∈ qs, Own1 w' w.heap.size h) := fun e w' q => q
  generalize Fewed w a0 = F0 at hf0 HF0
  clear p0
  have HAW : Hid (∀ w', Calls Try.prog 14 #[] w' fun e w'' => e = .returned (.bool true) ∧ Below w'.heap.size w' w'') := fun w' => awake_any w'
  go_enter Try.func3, Try.ntmps3
  go_upto_region 2 with (go_at_call 10; refine hf0.mono ?_; clear hf0; intro e w1 hq; obtain ⟨v2, qs, he, hh, hp, hb, hown, heach⟩ := HF0.out _ _ hq; obtain rfl := he; clear hq)
  have hq9 : qs.length ≤ 9 := by
    have := congrArg List.length hp
    simp at this
    omega
  have HQ9 : Hid (qs.length ≤ 9) := hq9
  have hag := few_again hh heach hp
  have HH : Hid (Helds w1 v2 qs) := hh
  have HB1 : Hid (Below w.heap.size w w1) := hb
  have HAG : Hid (∀ e w', Again w1 qs e w' → ∃ v js, e = .returned v ∧ js.map Hm.p = qs.map Hm.p ∧ Below w1.heap.size w1 w' ∧ AllS w' w1.heap.size v js) := fun e w' q => q
  generalize Again w1 qs = AG at hag HAG
  clear hh hp hb hown heach HF0 hq9
  go_upto_region 3 with (go_at_call 10; refine hag.mono ?_; clear hag; intro e w2 hq; obtain ⟨v3, js, he, hj, hb2, hall⟩ := HAG.out _ _ hq; obtain rfl := he; clear hq)
  have HJ : Hid (js.map Hm.p = qs.map Hm.p) := hj
  have HJ9 : Hid (js.length ≤ 9) := by
    have := congrArg List.length hj
    simp at this
    show _ ≤ _
    have := HQ9.out
    omega
  have HB2 : Hid (Below w1.heap.size w1 w2) := hb2
  have HA : Hid (Helds w2 v3 js) := hall.helds
  have hc := check_any HA.out (by have := HJ9.out; omega) (Nat.le_trans (List.length_filter_le _ _) (by have := HJ9.out; omega))
  have HC : Hid (∀ e w', Checked w2 js e w' → Below w2.heap.size w2 w' ∧ ((isHF (qs.map Hm.p) [] = false ∧ e = .returned (.tuple #[.int .u8 0, .int .i64 1])) ∨ (isHF (qs.map Hm.p) [] = true ∧ ∃ x, e = .returned (.tuple #[.int .u8 x, .int .i64 0]) ∧ ShownH js x))) := fun e w' q => by
    rw [← HJ.out]; exact q
  generalize Checked w2 js = CC at hc HC
  clear hj hb2 hall HAG
  have HPM : Hid (((js.filter fun h => h.p.dn).map Hm.p).Perm ((qs.filter fun h => h.p.dn).map Hm.p)) := by
    have e : ∀ l : List Hm, (l.filter fun h => h.p.dn).map Hm.p = (l.map Hm.p).filter fun p => p.dn := fun l => by rw [List.filter_map]; rfl
    show List.Perm _ _
    rw [e, e, HJ.out]
  have HD : Hid (∀ w3, Below w2.heap.size w2 w3 → Calls Try.prog 12 #[v2] w3 fun e w' => CheckD w3 qs e w') := fun w3 hb3 => checkd_any ((HH.out.keep HB2.out).keep hb3) (by have := HQ9.out; omega)
  have HS : Hid (∀ w4, Below w2.heap.size w2 w4 → Calls Try.prog 13 #[v3, v2] w4 fun e w' => e = .returned (.bool true) ∧ Below w4.heap.size w4 w') := fun w4 hb4 => same_any (HA.out.keep hb4) ((HH.out.keep HB2.out).keep hb4) HJ.out (by have := HJ9.out; omega)
  obtain ⟨b, HBB⟩ : ∃ b, Hid (isHF (qs.map Hm.p) [] = b) := ⟨_, rfl⟩
  rw [HBB.out] at HC
  have HB12 : Hid (Below w.heap.size w w2) := below_trans HB1.out HB2.out
  cases b with
  | false =>
    have HDD : Hid (∀ w3 e w', CheckD w3 qs e w' → Below w3.heap.size w3 w' ∧ e = .returned (.tuple #[.int .u8 0, .bool false])) := fun w3 e w' q => ⟨q.1, by
      rcases q.2 with ⟨_, q2⟩ | ⟨q1, _⟩
      · exact q2
      · have := (hisR_iff qs).1 q1; rw [HBB.out] at this; cases this⟩
    go_wp2_with (first
      | (go_at_call 11; refine hc.mono ?_; clear hc; intro e w3 hq; obtain ⟨hb3, hq2⟩ := HC.out _ _ hq; obtain ⟨_, he⟩ := hq2.resolve_right (fun q => by cases q.1); obtain rfl := he; clear hq hq2; have HB3 : Hid (Below w2.heap.size w2 w3) := hb3; have hd := HD.out w3 hb3; clear hb3)
      | (go_at_call 12; refine hd.mono ?_; clear hd; intro e w4 hq; obtain ⟨hb4, he⟩ := HDD.out _ _ _ hq; obtain rfl := he; clear hq; have HB4 : Hid (Below w2.heap.size w2 w4) := below_trans HB3.out hb4; have hs := HS.out w4 HB4.out; clear hb4)
      | (go_at_call 13; refine hs.mono ?_; clear hs; rintro e w5 ⟨he, hb5⟩; obtain rfl := he; have HB5 : Hid (Below w2.heap.size w2 w5) := below_trans HB4.out hb5; have haw := HAW.out w5; clear hb5)
      | (go_at_call 14; refine haw.mono ?_; clear haw; rintro e w6 ⟨he, hb6⟩; obtain rfl := he; have hfin := HFO.out w6 (below_trans HB12.out (below_trans HB5.out hb6)); clear hb6))
    exact hfin
  | true =>
    have HDD : Hid (∀ w3 e w', CheckD w3 qs e w' → Below w3.heap.size w3 w' ∧ ∃ o, e = .returned (.tuple #[.int .u8 o, .bool true]) ∧ ShownH qs o) := fun w3 e w' q => ⟨q.1, by
      rcases q.2 with ⟨q1, _⟩ | ⟨q1, o, q2, q3⟩
      · exact absurd ((hisR_iff qs).2 HBB.out) q1
      · exact ⟨o, q2, q3.toH q1⟩⟩
    go_wp2_with (first
      | (go_at_call 11; refine hc.mono ?_; clear hc; intro e w3 hq; obtain ⟨hb3, hq2⟩ := HC.out _ _ hq; obtain ⟨_, x, he, hx⟩ := hq2.resolve_left (fun q => by cases q.1); obtain rfl := he; clear hq hq2; have HX : Hid (ShownH js x) := hx; have HB3 : Hid (Below w2.heap.size w2 w3) := hb3; have hd := HD.out w3 hb3; clear hb3 hx)
      | (go_at_call 12; refine hd.mono ?_; clear hd; intro e w4 hq; obtain ⟨hb4, o, he, ho⟩ := HDD.out _ _ _ hq; obtain rfl := he; obtain rfl := HX.out.det ho HPM.out; clear hq; have HB4 : Hid (Below w2.heap.size w2 w4) := below_trans HB3.out hb4; have hs := HS.out w4 HB4.out; clear hb4 ho)
      | (go_at_call 13; refine hs.mono ?_; clear hs; rintro e w5 ⟨he, hb5⟩; obtain rfl := he; have HB5 : Hid (Below w2.heap.size w2 w5) := below_trans HB4.out hb5; have haw := HAW.out w5; clear hb5)
      | (go_at_call 14; refine haw.mono ?_; clear haw; rintro e w6 ⟨he, hb6⟩; obtain rfl := he; have hfin := HFO.out w6 (below_trans HB12.out (below_trans HB5.out hb6)); clear hb6))
    exact hfin
set_option maxRecDepth 100000 in
theorem lifted (os : Os) (started : os.Started) (H : Type) (enc : TypeId × Value → H) :
    ReturnsInHanded {} Try.checked os 3 .any (Rows.histChecksSpec.pre6 enc Try.prog Try.f3 Rows.histChecksRow.domain false) (Rows.histChecksSpec.post enc Try.prog Try.f3 false true false false) := by
  refine returnsInHanded_of_change_sized (C := Try.checked) own started (by kernel_rfl) Try.func3
    (ChangeSpec.witness6 (enc := enc) (C := Try.checked) false ⟨#[], #[.slice none 0 0], []⟩ 8 (by kernel_rfl) (by kernel_rfl) (by kernel_rfl) (by kernel_rfl)) ?_
  intro W base args ds gs before hval0 hW hcnd hsz0 _
  have hval : ∀ (j : Nat) t v, Try.f3.params[j]? = some t → args[j]? = some v → Value.okWide Try.prog W .any base t v := hval0
  have hW' := hW
  obtain ⟨p, q, hA0, hV, rfl, hfz, hnd⟩ := hW
  have hA : DataW.TrodAll enc Try.prog W 0 (fun _ => true) true Try.f3.params.toList args.toList ds p := hA0
  have hsz : (DataW.weightsEach Try.prog (Try.f3.params.toList ++ []) (ds ++ gs)).all (· ≤ reachBytes) = true := hsz0
  rw [Try.params3] at hA hval hsz
  obtain ⟨v0, vs0, d0, ds0, p0, q0, hargs, rfl, rfl, h0, r0⟩ := trodAll_cons hA
  obtain ⟨rfl, rfl, rfl⟩ := trodAll_nil r0
  obtain rfl : args = #[v0] := by cases args; simp_all
  obtain ⟨rfl, rfl⟩ := trodVars_none hV
  simp only [List.append_nil] at hsz
  have hlt : ∀ x ∈ (p0 ++ []), x.block < W.heap.size := fun x hx => hW'.lt x (by simpa using hx)
  have hw0 : (d0.weights Try.prog 22).all (· ≤ reachBytes) = true := List.all_eq_true.2 fun m hm => List.all_eq_true.1 hsz m (by simp [DataW.weightsEach, hm])
  have k0 := h0
  obtain ⟨a0, w0⟩ := open_pasts (hval 0 22 v0 rfl rfl) h0 hw0
  clear hA0 hval0
  simp only [List.append_nil] at hW'
  refine (walk W v0 a0 w0).mono fun e W' ⟨he, hg⟩ => ?_
  subst he
  exact ⟨_, rfl, ⟨_, _, _, [], (p0 ++ []), [], hW', (trodAll_cons_mk (shut_bool Try.underlying4 _) trodAll_mk0), (trodAll_cons_mk (Below.trod laidD (by kernel_rfl) (of_decide_eq_true (by kernel_rfl)) k0 hg (fun x hx => hlt x (by simp [hx]))) trodAll_mk0), rfl,
    hg.frame _, fun h => by cases h⟩⟩
theorem over : Rows.histChecksRow.holds Try.pinned (OpenSpec.ofChange Rows.histChecksSpec) :=
  OpenClaim.holds_of_wide 3 Try.f3 rfl rfl rfl rfl rfl rfl rfl ⟨rfl, rfl, rfl, rfl, rfl⟩ rfl rfl rfl rfl rfl (by kernel_rfl) Try.func3 (by kernel_rfl)
    (of_decide_eq_true (by kernel_rfl)) (by unfold Func.isWrapper; first | (rw [if_pos (by decide +kernel)]; kernel_rfl) | (rw [if_neg (by decide +kernel)]; exact ⟨rfl, rfl⟩))
    (fun os started H enc _ => lifted os started H enc)
theorem proved : Rows.HistChecksSaid :=
  over
#print axioms proved
end Go.Proofs.Ytdlllnkcjfpajaa.histChecks
