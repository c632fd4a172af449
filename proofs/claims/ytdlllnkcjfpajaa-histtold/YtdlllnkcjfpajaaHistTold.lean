/-
  HistTold: of any calls that were told the transactions are those that the document says. No conditions.
-/
import Derived.Test.YtdlllnkcjfpajaaJq22
namespace Go.Proofs.Ytdlllnkcjfpajaa.histTold
open Go.ChangeShapes Go.WideShapes Go.ChangeAt Go.RowKit
open Go.Deep
set_option linter.unusedVariables false
set_option linter.unusedSimpArgs false
theorem own : ownKnob Try.prog.godebug = none := by kernel_rfl
set_option maxRecDepth 20000 in
set_option maxHeartbeats 8000000 in
theorem walk (w : World) (v0 : Value) (ts : List Tl) (p0 : Tolds w v0 ts) :
    Calls Try.prog 4 #[v0] w fun e w' => e = .returned (.bool true) ∧ Below w.heap.size w w' := by
  have HFO : Hid (∀ w', Below w.heap.size w w' → (fun e w' => e = Ending.returned (.bool true) ∧ Below w.heap.size w w') (.returned (.bool true)) w') := fun w' h => ⟨rfl, h⟩
  generalize (fun e w' => e = Ending.returned (.bool true) ∧ Below w.heap.size w w') = PP at HFO ⊢
  have HAW : Hid (∀ w', Calls Try.prog 14 #[] w' fun e w'' => e = .returned (.bool true) ∧ Below w'.heap.size w' w'') := fun w' => awake_any w'
  have HP0 : Hid (Tolds w v0 ts) := p0
  obtain ⟨n, HN⟩ : ∃ n, Hid (ts.length = n) := ⟨_, rfl⟩
  obtain ⟨oa, cap, hv⟩ : ∃ oa cap, v0 = .slice oa n cap := by
    obtain ⟨oa, cap, e, _⟩ := p0.1.form
    exact ⟨oa, cap, by rw [e, HN.out]⟩
  subst hv
  clear p0
  by_cases hn : n > 200
  · have hn' : (n : Int) > 200 := by omega
    have haw := HAW.out w
    go_enter Try.func4, Try.ntmps4
    go_wp2_with (go_at_call 14; refine haw.mono ?_; clear haw; rintro e w1 ⟨he, hb⟩; obtain rfl := he; have hfin := HFO.out w1 hb; clear hb)
    exact hfin
  · have hn' : ¬ (n : Int) > 200 := by omega
    have HN2 : Hid (ts.length ≤ 200) := by show _ ≤ _; rw [HN.out]; omega
    have HAP : Hid (∀ ty, ∃ v' w', (Builtin.append_ #[32, 32] ty #[.slice (some ⟨w.heap.size, 0, none⟩) 0 0, .slice oa n cap]).run Try.prog (w.alloc (.cells #[] 60)) = .ok v' w' ∧ Tolds w' v' ts ∧ Below w.heap.size w w') := fun ty => run_copyT w ty _ _ HP0.out HN2.out
    have HOF : Hid (∀ w1 v1, Tolds w1 v1 ts → Calls Try.prog 15 #[v1] w1 fun e w' => OfH w1 ts e w') := fun w1 v1 h => of_any h HN2.out
    have HRF : Hid (∀ w2, Below w.heap.size w w2 → Calls Try.prog 16 #[.slice oa n cap] w2 fun e w' => OfD w2 ts e w') := fun w2 hb => rof_any ⟨⟨by
      obtain ⟨oa', cap', e, h1, h2, h3⟩ := HP0.out.1.form
      exact ⟨oa', cap', e, h1, h2, fun i o ho => by
        obtain ⟨a, e1, e2⟩ := h3 i o ho
        exact ⟨a, e1, fun j u hj => cell_keep (e2 j u hj) hb⟩⟩, HP0.out.1.few⟩, HP0.out.2⟩ HN2.out
    have HE1 : Hid (∀ w0 e w', OfH w0 ts e w' → ∃ v qs, e = .returned v ∧ Helds w' v qs ∧ qs.map Hm.p = ofR ts ∧ qs.length ≤ 1000 ∧ Below w0.heap.size w0 w') := fun w0 e w' ⟨v, qs, h1, h2, h3, h4, h5, h6⟩ => ⟨v, qs, h1, ⟨h2.own.olds, fun x hx => (h2.each x hx).held, h4⟩, h3, by have := HN2.out; omega, h6⟩
    have HE2 : Hid (∀ w0 e w', OfD w0 ts e w' → ∃ v qs, e = .returned v ∧ Helds w' v qs ∧ qs.map Hm.p = ofR ts ∧ Below w0.heap.size w0 w') := fun w0 e w' ⟨v, qs, h1, h2, h3, h4, h5⟩ => ⟨v, qs, h1, h2.helds, h3, h5⟩
    go_enter Try.func4, Try.ntmps4
    go_wp2_with (first
      | (refine Sn.wpList_copy rfl (.tmp 7) (.tmp 8) 32 rfl (.slice (some ⟨w.heap.size, 0, none⟩) 0 0) (.slice oa n cap) rfl rfl HAP.out ?_
         clear HAP
         rintro v1 w1 ⟨ht1, hb1⟩
         have HB1 : Hid (Below w.heap.size w w1) := hb1
         have hof := HOF.out w1 v1 ht1
         clear ht1 hb1)
      | (go_at_call 15; refine hof.mono ?_; clear hof; intro e w2 hq; obtain ⟨v2, qs, he, hh, hp, hl, hb⟩ := HE1.out _ _ _ hq; obtain rfl := he; clear hq; have HH2 : Hid (Helds w2 v2 qs) := hh; have HP2 : Hid (qs.map Hm.p = ofR ts) := hp; have HL2 : Hid (qs.length ≤ 1000) := hl; have HB2 : Hid (Below w.heap.size w w2) := below_trans HB1.out hb; have hrf := HRF.out w2 HB2.out; clear hh hp hl hb)
      | (go_at_call 16; refine hrf.mono ?_; clear hrf; intro e w3 hq; obtain ⟨v3, ks, he, hh, hp, hb⟩ := HE2.out _ _ _ hq; obtain rfl := he; clear hq; have hsm := same_any (HH2.out.keep hb) hh (HP2.out.trans hp.symm) HL2.out; have HB3 : Hid (Below w.heap.size w w3) := below_trans HB2.out hb; clear hh hp hb)
      | (go_at_call 13; refine hsm.mono ?_; clear hsm; rintro e w4 ⟨he, hb4⟩; obtain rfl := he; have HB4 : Hid (Below w.heap.size w w4) := below_trans HB3.out hb4; have haw := HAW.out w4; clear hb4)
      | (go_at_call 14; refine haw.mono ?_; clear haw; rintro e w5 ⟨he, hb5⟩; obtain rfl := he; have hfin := HFO.out w5 (below_trans HB4.out hb5); clear hb5))
    exact hfin
set_option maxRecDepth 100000 in
theorem lifted (os : Os) (started : os.Started) (H : Type) (enc : TypeId × Value → H) :
    ReturnsInHanded {} Try.checked os 4 .any (Rows.histToldSpec.pre6 enc Try.prog Try.f4 Rows.histToldRow.domain false) (Rows.histToldSpec.post enc Try.prog Try.f4 false true false false) := by
  refine returnsInHanded_of_change_sized (C := Try.checked) own started (by kernel_rfl) Try.func4
    (ChangeSpec.witness6 (enc := enc) (C := Try.checked) false ⟨#[], #[.slice none 0 0], []⟩ 8 (by kernel_rfl) (by kernel_rfl) (by kernel_rfl) (by kernel_rfl)) ?_
  intro W base args ds gs before hval0 hW hcnd hsz0 _
  have hval : ∀ (j : Nat) t v, Try.f4.params[j]? = some t → args[j]? = some v → Value.okWide Try.prog W .any base t v := hval0
  have hW' := hW
  obtain ⟨p, q, hA0, hV, rfl, hfz, hnd⟩ := hW
  have hA : DataW.TrodAll enc Try.prog W 0 (fun _ => true) true Try.f4.params.toList args.toList ds p := hA0
  have hsz : (DataW.weightsEach Try.prog (Try.f4.params.toList ++ []) (ds ++ gs)).all (· ≤ reachBytes) = true := hsz0
  rw [Try.params4] at hA hval hsz
  obtain ⟨v0, vs0, d0, ds0, p0, q0, hargs, rfl, rfl, h0, r0⟩ := trodAll_cons hA
  obtain ⟨rfl, rfl, rfl⟩ := trodAll_nil r0
  obtain rfl : args = #[v0] := by cases args; simp_all
  obtain ⟨rfl, rfl⟩ := trodVars_none hV
  simp only [List.append_nil] at hsz
  have hlt : ∀ x ∈ (p0 ++ []), x.block < W.heap.size := fun x hx => hW'.lt x (by simpa using hx)
  have hw0 : (d0.weights Try.prog 32).all (· ≤ reachBytes) = true := List.all_eq_true.2 fun m hm => List.all_eq_true.1 hsz m (by simp [DataW.weightsEach, hm])
  have k0 := h0
  obtain ⟨a0, w0⟩ := open_tolds (hval 0 32 v0 rfl rfl) h0 hw0
  clear hA0 hval0
  simp only [List.append_nil] at hW'
  refine (walk W v0 a0 w0).mono fun e W' ⟨he, hg⟩ => ?_
  subst he
  exact ⟨_, rfl, ⟨_, _, _, [], (p0 ++ []), [], hW', (trodAll_cons_mk (shut_bool Try.underlying4 _) trodAll_mk0), (trodAll_cons_mk (Below.trod laidD (by kernel_rfl) (of_decide_eq_true (by kernel_rfl)) k0 hg (fun x hx => hlt x (by simp [hx]))) trodAll_mk0), rfl,
    hg.frame _, fun h => by cases h⟩⟩
theorem over : Rows.histToldRow.holds Try.pinned (OpenSpec.ofChange Rows.histToldSpec) :=
  OpenClaim.holds_of_wide 4 Try.f4 rfl rfl rfl rfl rfl rfl rfl ⟨rfl, rfl, rfl, rfl, rfl⟩ rfl rfl rfl rfl rfl (by kernel_rfl) Try.func4 (by kernel_rfl)
    (of_decide_eq_true (by kernel_rfl)) (by unfold Func.isWrapper; first | (rw [if_pos (by decide +kernel)]; kernel_rfl) | (rw [if_neg (by decide +kernel)]; exact ⟨rfl, rfl⟩))
    (fun os started H enc _ => lifted os started H enc)
theorem proved : Rows.HistToldSaid :=
  over
#print axioms proved
end Go.Proofs.Ytdlllnkcjfpajaa.histTold
