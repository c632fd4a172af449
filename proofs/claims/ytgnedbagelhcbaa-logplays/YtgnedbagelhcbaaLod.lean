/-
  Proved here: opened: a log over what lies on the disk, and its texts.
-/
import Derived.Test.YtgnedbagelhcbaaLnw
import Derived.Test.YtgnedbagelhcbaaLth
namespace Go.Proofs.Ytgnedbagelhcbaa
open Go.ChangeShapes Go.WideShapes Go.ChangeAt Go.RowKit
set_option linter.unusedVariables false
set_option linter.unusedSimpArgs false
set_option maxRecDepth 20000

theorem It.Own.keepB {w w' : World} {base : Nat} {v : Value} {os : List It.O} (h : It.Own w base v os) (hb : Below w.heap.size w w') : It.Own w' base v os := It.Own.keep h hb
/-- Where the stream begins. -/
def opB (cs : List Ck.O) : Int := if (joinR 0 cs).sts.length = 0 then 1 else joinB 0 cs
def opS (cs : List Ck.O) : ByteArray := strOfNums (joinR 0 cs).str
def opE (cs : List Ck.O) : Int := itE (opB cs) (opS cs) 1
/-- How opened ends. -/
def Opend (w : World) (G : Nat) (L : Loc) (N : Nat) (d : Dsk) (z ep : Int) (cs : List Ck.O) (e : Ending) (w' : World) : Prop :=
  ∃ p iv, e = .returned (.tuple #[.pointer p, iv, .bool (decide (opB cs = 1) && decide ((joinR 0 cs).ep < ep))]) ∧ It.Own w' w.heap.size iv (itL (opB cs) (opS cs) 1) ∧ DAt w' G d L N ∧ Off (foot G L) w w' ∧
    (okN 0 z d.n (St.kpN 0 (joinR 0 cs).sts (opE cs)) (opE cs) (St.kp (joinR 0 cs).sts (opE cs)) = false → p = none) ∧
    (okN 0 z d.n (St.kpN 0 (joinR 0 cs).sts (opE cs)) (opE cs) (St.kp (joinR 0 cs).sts (opE cs)) = true → ∃ gl vl, p = some ⟨gl, 0, none⟩ ∧ w.heap.size ≤ gl ∧ Row w' gl (lcells (.pointer (some ⟨G, 0, none⟩)) vl (.slice none 0 0) ⟨0, z, ep, (St.kp (joinR 0 cs).sts (opE cs)).map (·.off), [], ByteArray.empty, St.kpN 0 (joinR 0 cs).sts (opE cs), true, opE cs, opE cs⟩) 102 ∧ OwnU w' (gl + 1) vl ((St.kp (joinR 0 cs).sts (opE cs)).map (·.off)))
theorem kp_len (os : List St.O) (e : Int) : (St.kp os e).length ≤ os.length := by unfold St.kp; exact List.Sublist.length_le (List.takeWhile_sublist _)
set_option maxHeartbeats 8000000 in
theorem opened_any (w : World) (G : Nat) (d dS : Dsk) (L : Loc) (N : Nat) (z ep : Int) (cs : List Ck.O) (hD : DAt w G d L N) (hsc : scanR 0 z 0 d = (cs, 0, dS)) (hdn : dS.n = d.n) (hz : 1 ≤ z ∧ z ≤ 2048) (hop : d.ops + 3000 < 9223372036854775806)
    (hcl : cs.length ≤ 100) (hfit : ∀ c ∈ cs, c.Fits) (ht : tot cs ≤ 100000) (hst : (joinR 0 cs).sts.length ≤ 100) (hsz : (opS cs).size ≤ 100000) (hB : opB cs = 1) (hep : (joinR 0 cs).ep < ep) :
    Calls Try.prog 36 #[.pointer (some ⟨G, 0, none⟩), .int .i64 z, .int .u32 ep] w fun e w' => Opend w G L N dS z ep cs e w' := by
  obtain ⟨PP, HPP⟩ : ∃ PP : Ending → World → Prop, Hid (PP = fun e w' => Opend w G L N dS z ep cs e w') := ⟨_, rfl⟩
  rw [← HPP.out]
  have hsm := hD.small
  have HSC := scan_any w G d L N 0 z 0 hD (by omega) (by omega) hop
  rw [hsc] at HSC
  have HSC : Hid _ := HSC
  have HJO : Hid (∀ wx v, Ck.Olds wx v cs → Calls Try.prog 39 #[.int .u32 0, v] wx fun e w' => Joined wx 0 cs e w') := fun wx v h => join_any 0 v cs wx h hcl (by omega) hfit (by omega)
  have HIT : Hid (∀ wx, Calls Try.prog 40 #[.int .u64 (opB cs), .string (opS cs), .int .u64 1] wx fun e w' => ∃ iv, e = .returned (.tuple #[iv, .int .u64 (opE cs)]) ∧ It.Own w' wx.heap.size iv (itL (opB cs) (opS cs) 1) ∧ Below wx.heap.size wx w') := fun wx => items_any (opB cs) (opS cs) 1 wx (by rw [hB]; decide) (by omega) (by omega)
  have hkl := kp_len (joinR 0 cs).sts (opE cs)
  have HKE : Hid (∀ wx v base, St.Own wx base v (joinR 0 cs).sts → Calls Try.prog 64 #[.int .u32 0, v, .int .u64 (opE cs)] wx fun e w' => ∃ kv, e = .returned (.tuple #[kv, .int .u32 (St.kpN 0 (joinR 0 cs).sts (opE cs))]) ∧ St.Own w' wx.heap.size kv (St.kp (joinR 0 cs).sts (opE cs)) ∧ Below wx.heap.size wx w') := fun wx v base h => St.keep_any 0 (opE cs) v _ wx base h hst (by omega)
  obtain ⟨OK, HOK⟩ : ∃ OK, Hid (okN 0 z dS.n (St.kpN 0 (joinR 0 cs).sts (opE cs)) (opE cs) (St.kp (joinR 0 cs).sts (opE cs)) = OK) := ⟨_, rfl⟩
  obtain ⟨NL, HNL⟩ : ∃ NL : Option Addr → World → World → Prop, Hid (NL = fun p w4 w' => Below w4.heap.size w4 w' ∧ (OK = false → p = none) ∧ (OK = true → ∃ gl vl, p = some ⟨gl, 0, none⟩ ∧ w4.heap.size ≤ gl ∧ Row w' gl (lcells (.pointer (some ⟨G, 0, none⟩)) vl (.slice none 0 0) ⟨0, z, ep, (St.kp (joinR 0 cs).sts (opE cs)).map (·.off), [], ByteArray.empty, St.kpN 0 (joinR 0 cs).sts (opE cs), true, opE cs, opE cs⟩) 102 ∧ OwnU w' (gl + 1) vl ((St.kp (joinR 0 cs).sts (opE cs)).map (·.off)))) := ⟨_, rfl⟩
  have HNW : Hid (∀ w1 v base, DAt w1 G dS L N → ∀ wx, Below w1.heap.size w1 wx → St.Own wx base v (St.kp (joinR 0 cs).sts (opE cs)) → Calls Try.prog 11 #[.pointer (some ⟨G, 0, none⟩), .int .i64 0, .int .i64 z, .int .u32 ep, v, .int .u32 (St.kpN 0 (joinR 0 cs).sts (opE cs)), .int .u64 (opE cs)] wx fun e w' => ∃ p, e = .returned (.pointer p) ∧ NL p wx w') := fun w1 v base hd wx hb h => by
    have h1 := lnew_any (some ⟨G, 0, none⟩) 0 z ep (St.kpN 0 (joinR 0 cs).sts (opE cs)) (opE cs) dS.n v _ wx h.olds (by omega) (by omega) (by rw [hdn]; omega) (fun wa hb2 => size_any ((hd.below hb).below hb2))
    rw [HOK.out] at h1
    refine h1.mono ?_
    rintro e w' ⟨m1, m2, m3⟩
    rw [HNL.out]
    cases hq : OK with
    | false => exact ⟨none, m2 hq, m1, fun _ => rfl, fun q => by cases q⟩
    | true =>
      obtain ⟨gl, vl, k1, k2, k3, k4⟩ := m3 hq
      exact ⟨some ⟨gl, 0, none⟩, k2, m1, (fun q => by cases q), fun _ => ⟨gl, vl, rfl, k1, k3, k4⟩⟩
  have HFL : Hid (∀ j, foot G L j → j < w.heap.size) := fun j hj => hD.lt hj
  have HK0 : Hid (∀ (w1 : World), DAt w1 G dS L N → Off (foot G L) w w1 → ∀ p iv (w5 w3 w4 : World) (w2 : World), It.Own w3 w2.heap.size iv (itL (opB cs) (opS cs) 1) → Below w1.heap.size w1 w2 → Below w3.heap.size w3 w4 → Below w1.heap.size w1 w4 → NL p w4 w5 → PP (.returned (.tuple #[.pointer p, iv, .bool (decide (opB cs = 1) && decide ((joinR 0 cs).ep < ep))])) w5) := fun w1 d1 o1 p iv w5 w3 w4 w2 ownI b12 b34 b14 hN => by
    rw [HNL.out] at hN
    obtain ⟨b45, n1, n2⟩ := hN
    rw [HPP.out]
    have b15 : Below w1.heap.size w1 w5 := b14.trans (b45.mono b14.size)
    have hs1 := o1.size
    refine ⟨p, iv, rfl, ?_, d1.below b15, o1.trans (Off.of_below (F := fun _ => False) b15) (fun _ q => q.elim), (fun q => n1 (by rw [HOK.out] at q; exact q)), fun q => ?_⟩
    · have k1 := (ownI.keepB b34).keepB b45
      have h12 := b12.size
      obtain ⟨q1, q2⟩ := k1
      refine ⟨q1, ?_⟩
      rcases q2 with q2 | ⟨g, cap, cur, e1, e2, rest⟩
      · exact Or.inl q2
      · exact Or.inr ⟨g, cap, cur, e1, by omega, rest⟩
    · obtain ⟨gl, vl, k1, k2, k3, k4⟩ := n2 (by rw [HOK.out] at q; exact q)
      have := b14.size
      exact ⟨gl, vl, k1, by omega, k3, k4⟩
  have HJB : Hid ((joinR 0 cs).sts.length ≠ 0 → joinB 0 cs = opB cs) := fun q => by unfold opB; rw [if_neg q]
  have HJ1 : Hid ((joinR 0 cs).sts.length = 0 → opB cs = 1) := fun q => by unfold opB; rw [if_pos q]
  have HJS : Hid (strOfNums (joinR 0 cs).str = opS cs) := rfl
  clear HPP hD hsc HNL HOK hkl
  unfold Joined at HJO
  rw [HJS.out] at HJO
  generalize hjr : joinR 0 cs = J at *
  generalize opE cs = EE at *
  generalize itL (opB cs) (opS cs) 1 = IL at *
  generalize opS cs = SS at *
  generalize joinB 0 cs = JB at *
  generalize opB cs = BB at *
  generalize St.kp J.sts EE = KP at *
  generalize St.kpN 0 J.sts EE = KN at *
  clear hjr
  go_enter Try.func36, Try.ntmps36
  go_upto_region 3 with (first
    | (go_at_call 34; refine Calls.mono HSC.out ?_; clear HSC; rintro e w1 ⟨cv, he, ownC, D1, O1⟩; obtain rfl := he; have OL := ownC.olds; clear ownC)
    | (go_at_call 39; refine Calls.mono (HJO.out _ _ OL) ?_; clear HJO OL; rintro e w2 ⟨sv, he, ownS, b2⟩; obtain rfl := he))
  have HK : Hid (∀ p iv (w5 w3 w4 : World), It.Own w3 w2.heap.size iv IL → Below w3.heap.size w3 w4 → Below w1.heap.size w1 w4 → NL p w4 w5 → PP (.returned (.tuple #[.pointer p, iv, .bool (decide (BB = 1) && decide (J.ep < ep))])) w5) := fun p iv w5 w3 w4 i1 i2 i3 i4 => HK0.out w1 D1 O1 p iv w5 w3 w4 w2 i1 b2 i2 i3 i4
  have HNW : Hid (∀ v base wx, Below w1.heap.size w1 wx → St.Own wx base v KP → Calls Try.prog 11 #[.pointer (some ⟨G, 0, none⟩), .int .i64 0, .int .i64 z, .int .u32 ep, v, .int .u32 KN, .int .u64 EE] wx fun e w' => ∃ p, e = .returned (.pointer p) ∧ NL p wx w') := fun v base wx h1 h2 => HNW.out w1 v base D1 wx h1 h2
  clear HK0 D1 O1
  obtain ⟨so, sc, hsv⟩ := ownS.form
  have het : J.ep < ep := hep
  have HK2 : Hid (∀ p iv (w5 w3 w4 : World), It.Own w3 w2.heap.size iv IL → Below w3.heap.size w3 w4 → Below w1.heap.size w1 w4 → NL p w4 w5 → PP (.returned (.tuple #[.pointer p, iv, .bool true])) w5) := fun p iv w5 w3 w4 i1 i2 i3 i4 => by
    have h9 := HK.out p iv w5 w3 w4 i1 i2 i3 i4
    rw [decide_eq_true hep, decide_eq_true hB] at h9; exact h9
  clear HK hep
  by_cases h0 : J.sts.length = 0
  · rw [h0] at hsv
    subst hsv
    subst hB
    clear HJB HJ1 h0
    go_wp2_with (first
      | (go_at_call 40; refine Calls.mono (HIT.out _) ?_; clear HIT; rintro e w3 ⟨iv, he, ownI, b3⟩; obtain rfl := he; have ownS3 := ownS.keep b3; have bb3 := b2.trans (b3.mono b2.size); clear ownS)
      | (go_at_call 64; refine Calls.mono (HKE.out _ _ _ ownS3) ?_; clear HKE; rintro e w4 ⟨kv, he, ownK, b4⟩; obtain rfl := he; have bb4 := bb3.trans (b4.mono bb3.size); clear ownS3)
      | (go_at_call 11; refine Calls.mono (HNW.out _ _ _ bb4 ownK) ?_; clear HNW; rintro e w5 ⟨p, he, hm5⟩; obtain rfl := he))
    refine bodyPost_ret (results_tmp3 rfl _ _ _) rfl ?_
    exact HK2.out p iv w5 _ _ ownI b4 bb4 hm5
  · have hb1 : JB = 1 := (HJB.out h0).trans hB
    obtain ⟨sn, Hsn⟩ : ∃ sn, Hid (J.sts.length = sn) := ⟨_, rfl⟩
    rw [Hsn.out] at hsv h0
    have h0' : ¬ (sn : Int) = 0 := by omega
    subst hsv
    subst hb1
    subst hB
    clear HJB HJ1 h0
    go_wp2_with (first
      | (go_at_call 40; refine Calls.mono (HIT.out _) ?_; clear HIT; rintro e w3 ⟨iv, he, ownI, b3⟩; obtain rfl := he; have ownS3 := ownS.keep b3; have bb3 := b2.trans (b3.mono b2.size); clear ownS)
      | (go_at_call 64; refine Calls.mono (HKE.out _ _ _ ownS3) ?_; clear HKE; rintro e w4 ⟨kv, he, ownK, b4⟩; obtain rfl := he; have bb4 := bb3.trans (b4.mono bb3.size); clear ownS3)
      | (go_at_call 11; refine Calls.mono (HNW.out _ _ _ bb4 ownK) ?_; clear HNW; rintro e w5 ⟨p, he, hm5⟩; obtain rfl := he))
    refine bodyPost_ret (results_tmp3 rfl _ _ _) rfl ?_
    exact HK2.out p iv w5 _ _ ownI b4 bb4 hm5
end Go.Proofs.Ytgnedbagelhcbaa
