/-
  Proved here: which frame clock.Victim gives up.
-/
import Derived.Test.YtobdeijbmnenmabCold
namespace Go.Proofs.Ytobdeijbmnenmab
open Go.ChangeShapes Go.WideShapes Go.ChangeAt Go.RowKit
set_option linter.unusedVariables false
set_option linter.unusedSimpArgs false

def boolOf : Option Value → Bool
  | some (.bool b) => b
  | _ => false
def numOf : Option Value → Int
  | some (.int _ i) => i
  | _ => 0
/-- The frames as they lie in memory. -/
def decF (w : World) (a n : Nat) : List Fr := (List.range n).map fun j => ⟨j, boolOf (w.cell? ⟨a, j * 3 + 0, none⟩), boolOf (w.cell? ⟨a, j * 3 + 1, none⟩), numOf (w.cell? ⟨a, j * 3 + 2, none⟩)⟩
def decH (w : World) (g : Nat) : Nat := (numOf (w.cell? ⟨g, 1, none⟩)).toNat
theorem CAt.dec {w : World} {g a : Nat} {fs : List Fr} {h : Nat} {M : Int} (c : CAt w g a fs h M) : decF w a fs.length = fs ∧ decH w g = h := by
  refine ⟨?_, ?_⟩
  · apply List.ext_getElem?
    intro j
    unfold decF
    rw [List.getElem?_map]
    by_cases hj : j < fs.length
    · obtain ⟨x, hx⟩ := c.ex hj
      rw [List.getElem?_range hj, hx, Option.map_some, c.at hx 0 (by omega) _ rfl, c.at hx 1 (by omega) _ rfl, c.at hx 2 (by omega) _ rfl]
      have := c.nos j x hx
      subst this
      rfl
    · rw [List.getElem?_eq_none (by simp; omega), List.getElem?_eq_none (by omega)]; rfl
  · unfold decH
    rw [row_at c.row 1 _ rfl]
    simp [numOf]
/-- The same frames, but for what was seen. -/
def Same (fs fs' : List Fr) : Prop := fs'.length = fs.length ∧ ∀ (j : Nat) (x : Fr), fs[j]? = some x → ∃ y : Fr, fs'[j]? = some y ∧ y.cold = x.cold ∧ y.pins = x.pins
theorem Same.refl (fs : List Fr) : Same fs fs := ⟨rfl, fun j x hx => ⟨x, hx, rfl, rfl⟩⟩
theorem Same.set {fs fs' : List Fr} (s : Same fs fs') {i : Nat} {x y : Fr} (hx : fs'[i]? = some x) (h1 : y.cold = x.cold) (h2 : y.pins = x.pins) : Same fs (fs'.set i y) := by
  refine ⟨by rw [List.length_set]; exact s.1, fun j z hz => ?_⟩
  obtain ⟨u, hu, e1, e2⟩ := s.2 j z hz
  by_cases q : i = j
  · subst q
    rw [hx] at hu; cases hu
    exact ⟨y, by rw [List.getElem?_set_self (List.getElem?_eq_some_iff.1 hx).1], h1.trans e1, h2.trans e2⟩
  · exact ⟨u, by rw [List.getElem?_set_ne q]; exact hu, e1, e2⟩
theorem Colded.form {w : World} {fs : List Fr} {h : Nat} {e : Ending} {w' : World} (q : Colded w fs h e w') : ∃ (v : Nat) (ok : Bool), e = .returned (.tuple #[.int .i64 v, .bool ok]) ∧ Below w.heap.size w w' ∧
    ((ok = true ∧ ∃ k x, k < fs.length ∧ fs[(h + k) % fs.length]? = some x ∧ x.cf = true ∧ (∀ i, i < k → ∀ y, fs[(h + i) % fs.length]? = some y → y.cf = false) ∧ v = (h + k) % fs.length) ∨ (ok = false ∧ ∀ y ∈ fs, y.cf = false)) := by
  obtain ⟨b, ⟨k, x, h1, h2, h3, h4, rfl⟩ | ⟨h1, rfl⟩⟩ := q
  · exact ⟨_, true, rfl, b, Or.inl ⟨rfl, k, x, h1, h2, h3, h4, rfl⟩⟩
  · exact ⟨0, false, rfl, b, Or.inr ⟨rfl, h1⟩⟩
/-- What Victim tells and leaves. -/
def Victed (w : World) (g a : Nat) (fs : List Fr) (h : Nat) (M : Int) (e : Ending) (w' : World) : Prop :=
  ∃ (v : Nat) (ok : Bool) (fs' : List Fr) (h' : Nat), e = .returned (.tuple #[.int .i64 v, .bool ok]) ∧ Vict (ring fs h) v ok (ring fs' h') ∧ Same fs fs' ∧ CAt w' g a fs' h' M ∧ Off (two g a) w w'
theorem victim_nil (w : World) : Calls Try.prog 16 #[.pointer none] w fun e w' => e = .returned (.tuple #[.int .i64 0, .bool false]) ∧ w' = w := by
  go_enter Try.func16, Try.ntmps16
  go_wp2
  go_ret2
  exact ⟨rfl, rfl⟩
theorem victim_any {w : World} {g a : Nat} {fs : List Fr} {h : Nat} {M : Int} (c : CAt w g a fs h M) :
    Calls Try.prog 16 #[.pointer (some ⟨g, 0, none⟩)] w fun e w' => Victed w g a fs h M e w' := by
  obtain ⟨PP, HP⟩ : ∃ P : Ending → World → Prop, Hid (P = fun e w' => Victed w g a fs h M e w') := ⟨_, rfl⟩
  rw [show (fun e w' => Victed w g a fs h M e w') = PP from HP.out.symm]
  have HR : Hid (∀ (v : Nat) (ok : Bool) (fs' : List Fr) (h' : Nat) (w' : World), Vict (ring fs h) v ok (ring fs' h') → Same fs fs' → CAt w' g a fs' h' M → Off (two g a) w w' → PP (.returned (.tuple #[.int .i64 v, .bool ok])) w') := fun v ok fs' h' w' q1 q2 q3 q4 => by
    rw [HP.out]; exact ⟨v, ok, fs', h', rfl, q1, q2, q3, q4⟩
  clear HP
  have hlo := loose_any c
  have HCO : Hid (∀ w1, Below w.heap.size w w1 → Calls Try.prog 24 #[.pointer (some ⟨g, 0, none⟩)] w1 fun e w' => Colded w1 fs h e w') := fun w1 b1 => coldest_any (c.below b1)
  by_cases hfree : ∃ y ∈ fs, y.pins = 0
  · have hany : (fs.any fun y => decide (y.pins = 0)) = true := by
      obtain ⟨y, hy, h0⟩ := hfree
      exact List.any_eq_true.2 ⟨y, hy, by simpa using h0⟩
    rw [hany] at hlo
    have HF : Hid (∃ y ∈ fs, y.pins = 0) := hfree
    clear hany hfree
    go_enter Try.func16, Try.ntmps16
    go_upto_region 3 with (go_at_call 23; refine hlo.mono ?_; rintro e w1 ⟨he, b1⟩; obtain rfl := he)
    have c1 := c.below b1
    have o1 : Off (two g a) w w1 := Off.of_below b1
    clear hlo
    have hcc := HCO.out w1 b1
    clear HCO
    go_upto_region 4 with (go_at_call 24; refine hcc.mono ?_; clear hcc; rintro e w2 hcold; obtain ⟨v, ok, he, b2, hc2⟩ := hcold.form; obtain rfl := he)
    have c2 := c1.below b2
    have o2 : Off (two g a) w w2 := o1.trans (Off.of_below (F := two g a) b2) (fun _ q => Or.inl q)
    clear c1 o1 b1 b2 c
    rcases hc2 with ⟨hok, k, x, hk, hx, hcf, hno, hv⟩ | ⟨hok, hno⟩
    · subst hok
      have hvl : v < fs.length := by rw [hv]; exact Nat.mod_lt _ (by omega)
      have hbh := behind_any c2 v hvl
      have hn3 := nxt_lt (by omega : 0 < fs.length) v
      have c3 := c2.setHand (nxt fs.length v) hn3
      have f3 := row_frozen c2.row 1
      have d3 := row_at c2.row 1 _ rfl
      have o3 := o2.trans (Off.of_setCell (F := two g a) w2 ⟨g, 1, none⟩ (.int .i64 (nxt fs.length v)) (Or.inl rfl)) (fun _ q => Or.inl q)
      have hVict : Vict (ring fs h) v true (ring fs (nxt fs.length v)) := by
        obtain ⟨A, B, e1, e2, e3⟩ := ring_skip c2.hand hk hx
        refine Or.inl ⟨A, x, B, e1, fun y hy => ?_, hcf, ?_, rfl, ?_⟩
        · obtain ⟨i, hi, rfl⟩ := List.getElem_of_mem hy
          have := ring_at c2.hand (k := i) (by omega)
          rw [e1, List.getElem?_append_left hi, List.getElem?_eq_getElem hi] at this
          exact hno i (by omega) _ this.symm
        · rw [hv]; exact (c2.nos _ _ hx).symm
        · rw [hv]; exact e3
      have HV : Hid _ := HR.out v true fs _ _ hVict (Same.refl _) c3 o3
      clear hVict hno hcf hk c3 o3 HR hn3 hv
      go_wp2_with (go_at_call 25; refine hbh.mono ?_; rintro e wb ⟨he, hww⟩; rw [hww]; clear hww wb; obtain rfl := he)
      try go_ret2
      exact HV.out
    · subst hok
      have HNO : Hid _ := hno
      clear hno
      obtain ⟨n, Hn⟩ : ∃ n, Hid (fs.length = n) := ⟨_, rfl⟩
      go_wp2
      go_loopw [6] (fun _ wr => ∃ (fs' : List Fr) (h' : Nat), CAt wr g a fs' h' M ∧ Hid (∀ v S, Vic (ring fs' h') v S → Vic (ring fs h) v S) ∧ Hid (∃ y ∈ ring fs' h', y.pins = 0) ∧ Hid (Same fs fs') ∧ Off (two g a) w wr) (fun _ wr => way (ring (decF wr a n) (decH wr g)))
      case atStart => exact ⟨fs, h, c2, fun v S q => q, by obtain ⟨y, hy, h0⟩ := HF.out; exact ⟨y, mem_ring.2 hy, h0⟩, Same.refl _, o2⟩
      case round =>
        clear c2 o2
        obtain ⟨fs', h', D, HV, HE, HS, ro⟩ := hrel
        have hln : fs'.length = n := HS.out.1.trans Hn.out
        obtain ⟨x0, hx0⟩ := D.ex D.hand
        have HM : Hid (way (ring (decF wr a n) (decH wr g)) = way (ring fs' h')) := by
          have := D.dec
          rw [hln] at this
          show _ = _
          rw [this.1, this.2]
        have hh' := D.hand
        have hno0 := D.nos _ _ hx0
        have hbh := behind_any D h' hh'
        have hnl := nxt_lt (by omega : 0 < fs'.length) h'
        have c3 := D.setHand (nxt fs'.length h') hnl
        have f3 := row_frozen D.row 1
        have d0 := row_at D.row 0 _ rfl
        have d1 := row_at D.row 1 _ rfl
        have o3 := ro.trans (Off.of_setCell (F := two g a) wr ⟨g, 1, none⟩ (.int .i64 (nxt fs'.length h')) (Or.inl rfl)) (fun _ q => Or.inl q)
        have e0 := row_at c3.row 0 _ rfl
        have e2 := c3.at hx0 2 (by omega) _ rfl
        have hus := used_any c3 h' x0 hx0
        have hcons := ring_cons hx0
        have hfr := HE.out
        have HX : Hid (fs'[h']? = some x0) := hx0
        have hh2 : (h' : Int) < fs'.length := by omega
        obtain ⟨no, sn, cd, p⟩ := x0
        have HNO0 : Hid (no = h') := hno0
        simp only at e2 hus
        have HC : Hid _ := hcons
        have HE2 : Hid _ := hfr
        clear hcons hno0 hx0 hfr
        by_cases hp : p = 0
        · subst hp
          cases sn with
          | false =>
            have HVV : Hid (Vict (ring fs h) h' true (ring fs' (nxt fs'.length h'))) := by
              refine Or.inr (Or.inl ⟨fun y hy => HNO.out y (mem_ring.1 hy), ?_, HV.out _ _ ?_, rfl⟩)
              · obtain ⟨y, hy, h0⟩ := HF.out; exact ⟨y, mem_ring.2 hy, h0⟩
              · rw [HC.out, ring_turn HX.out]
                have := Vic.hit ⟨no, false, cd, 0⟩ (fs'.drop (h' + 1) ++ fs'.take h') ⟨rfl, rfl⟩
                simpa only [HNO0.out] using this
            have hset : fs'.set h' ⟨no, false, cd, 0⟩ = fs' := by
              have := (List.getElem?_eq_some_iff.1 HX.out).2
              rw [← this]; exact List.set_getElem_self _
            rw [hset] at hus
            clear hset hln hnl
            go_wp2_with (first
              | (go_at_call 25; refine hbh.mono ?_; rintro e wb ⟨he, hww⟩; rw [hww]; clear hww wb; obtain rfl := he)
              | (go_at_call 26; refine hus.mono ?_; rintro e w5 ⟨he, c5, o5⟩; obtain rfl := he))
            try go_ret2
            exact HR.out h' true fs' _ _ HVV.out HS.out c5 (o3.trans o5 (fun _ q => Or.inl q))
          | true =>
            have HW := way_pass (x := ⟨no, true, cd, 0⟩) (T := fs'.drop (h' + 1) ++ fs'.take h') (fun q => by cases q.2) (by rw [← HC.out]; exact HE2.out)
            have hW2 : ring (fs'.set h' ⟨no, false, cd, 0⟩) (nxt fs'.length h') = (fs'.drop (h' + 1) ++ fs'.take h') ++ [Fr.pass ⟨no, true, cd, 0⟩] := ring_next hh' _
            have HW2 : Hid _ := hW2
            have HWW : Hid _ := HW
            have HSS : Hid _ := HS.out.set (y := ⟨no, false, cd, 0⟩) HX.out rfl rfl
            have HLN : Hid _ := hln
            clear hW2 HW hln hnl
            go_wp2_with (first
              | (go_at_call 25; refine hbh.mono ?_; rintro e wb ⟨he, hww⟩; rw [hww]; clear hww wb; obtain rfl := he)
              | (go_at_call 26; refine hus.mono ?_; rintro e w5 ⟨he, c5, o5⟩; obtain rfl := he))
            go_roundw
            case rel =>
              refine ⟨_, _, c5, fun v S q => HV.out v S ?_, ?_, HSS.out, o3.trans o5 (fun _ q => Or.inl q)⟩
              · rw [HC.out]
                refine Vic.pass _ _ _ _ (fun q => by cases q.2) ?_
                rw [HW2.out] at q
                exact q
              · show ∃ y ∈ ring _ _, y.pins = 0
                rw [HW2.out]; exact HWW.out.2
            case measure =>
              have hd := c5.dec
              rw [List.length_set, HLN.out] at hd
              rw [hd.1, hd.2, HM.out, ← HLN.out, HW2.out, HC.out]
              exact HWW.out.1
        · have HW := way_pass (x := ⟨no, sn, cd, p⟩) (T := fs'.drop (h' + 1) ++ fs'.take h') (fun q => hp q.1) (by rw [← HC.out]; exact HE2.out)
          rw [pass_held (x := ⟨no, sn, cd, p⟩) hp] at HW
          have hW2 := ring_turn HX.out
          have HW2 : Hid _ := hW2
          have HWW : Hid _ := HW
          have HLN : Hid _ := hln
          clear hW2 HW hln hnl
          go_wp2_with (first
            | (go_at_call 25; refine hbh.mono ?_; rintro e wb ⟨he, hww⟩; rw [hww]; clear hww wb; obtain rfl := he))
          go_roundw
          case rel =>
            refine ⟨fs', _, c3, fun v S q => HV.out v S ?_, ?_, HS, o3⟩
            · rw [HC.out]
              refine Vic.pass _ _ _ _ (fun q => hp q.1) ?_
              rw [HW2.out] at q
              rw [pass_held (x := ⟨no, sn, cd, p⟩) hp]
              exact q
            · show ∃ y ∈ ring _ _, y.pins = 0
              rw [HW2.out]; exact HWW.out.2
          case measure =>
            have hd := c3.dec
            rw [HM.out, ← HLN.out, hd.1, hd.2, HW2.out, HC.out]
            exact HWW.out.1
  · have hany : (fs.any fun y => decide (y.pins = 0)) = false := List.any_eq_false.2 fun y hy => by simpa using fun q => hfree ⟨y, hy, q⟩
    rw [hany] at hlo
    have hr : ∀ w1, Below w.heap.size w w1 → PP (.returned (.tuple #[.int .i64 0, .bool false])) w1 := fun w1 b1 => HR.out 0 false fs h w1 (Or.inr (Or.inr ⟨fun y hy q => hfree ⟨y, mem_ring.1 hy, q⟩, rfl, rfl, rfl⟩)) (Same.refl _) (c.below b1) (Off.of_below b1)
    have HRR : Hid _ := hr
    clear hr hany hfree
    go_enter Try.func16, Try.ntmps16
    go_wp2_with (go_at_call 23; refine hlo.mono ?_; rintro e w1 ⟨he, b1⟩; obtain rfl := he)
    try go_ret2
    exact HRR.out w1 b1
end Go.Proofs.Ytobdeijbmnenmab
