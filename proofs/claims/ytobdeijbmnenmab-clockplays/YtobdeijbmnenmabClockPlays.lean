/-
  ClockPlays (P12.1 to P12.3): for every number of frames and every list of calls, each answer of a clock is the document's, and so is how often each frame is held; and the fixed run comes out.
-/
import Derived.Test.YtobdeijbmnenmabRvi
import Derived.BigQuiet
import Derived.WalkSmall
namespace Go.Proofs.Ytobdeijbmnenmab.clockPlays
open Go.ChangeShapes Go.WideShapes Go.ChangeAt Go.RowKit
open Go.Deep
set_option linter.unusedVariables false
set_option linter.unusedSimpArgs false

theorem own : ownKnob Try.prog.godebug = none := by kernel_rfl

theorem acted_length {k i : Int} {b : Bool} {fs : List Fr} {h : Nat} {z : Int} {ok : Bool} {fs' : List Fr} {h' : Nat} (q : Acted k i b fs h z ok fs' h') : fs'.length = fs.length := by
  rcases q with ⟨_, v, rfl, hv, hs⟩ | ⟨_, _, _, rfl, _⟩
  · exact hs.1
  · unfold upd
    split
    · split
      · rw [List.length_set]
      · rfl
    · rfl
theorem ring_find {fs : List Fr} {h j : Nat} (nos : ∀ (j : Nat) (x : Fr), fs[j]? = some x → x.no = j) (hh : h < fs.length) (hj : j < fs.length) :
    ∃ kk, kk < fs.length ∧ (h + kk) % fs.length = j ∧ (ring fs h)[kk]? = fs[j]? ∧ ∀ (i : Nat) (y : Fr), i < kk → (ring fs h)[i]? = some y → y.no ≠ j := by
  have key : ∀ kk, kk < fs.length → (h + kk) % fs.length = j → (ring fs h)[kk]? = fs[j]? ∧ ∀ (i : Nat) (y : Fr), i < kk → (ring fs h)[i]? = some y → y.no ≠ j := fun kk hk e => by
    refine ⟨by rw [ring_at hh hk, e], fun i y hi hy hn => ?_⟩
    rw [ring_at hh (by omega)] at hy
    have h1 := nos _ _ hy
    rw [hn] at h1
    rw [← e] at h1
    have m1 : h + i < fs.length → (h + i) % fs.length = h + i := fun q => Nat.mod_eq_of_lt q
    have m2 : ¬ h + i < fs.length → (h + i) % fs.length = h + i - fs.length := fun q => by rw [Nat.mod_eq_sub_mod (by omega), Nat.mod_eq_of_lt (by omega)]
    have m3 : h + kk < fs.length → (h + kk) % fs.length = h + kk := fun q => Nat.mod_eq_of_lt q
    have m4 : ¬ h + kk < fs.length → (h + kk) % fs.length = h + kk - fs.length := fun q => by rw [Nat.mod_eq_sub_mod (by omega), Nat.mod_eq_of_lt (by omega)]
    by_cases q1 : h + i < fs.length <;> by_cases q2 : h + kk < fs.length
    · rw [m1 q1, m3 q2] at h1; omega
    · rw [m1 q1, m4 q2] at h1; omega
    · rw [m2 q1, m3 q2] at h1; omega
    · rw [m2 q1, m4 q2] at h1; omega
  by_cases q : h ≤ j
  · have e : (h + (j - h)) % fs.length = j := by rw [show h + (j - h) = j by omega, Nat.mod_eq_of_lt hj]
    exact ⟨j - h, by omega, e, key _ (by omega) e⟩
  · have e : (h + (j + fs.length - h)) % fs.length = j := by rw [show h + (j + fs.length - h) = j + fs.length by omega, Nat.add_mod_right, Nat.mod_eq_of_lt hj]
    exact ⟨j + fs.length - h, by omega, e, key _ (by omega) e⟩
theorem ring_set {fs : List Fr} {h j kk : Nat} (hh : h < fs.length) (hk : kk < fs.length) (e : (h + kk) % fs.length = j) (y : Fr) : (ring fs h).set kk y = ring (fs.set j y) h := by
  unfold ring
  by_cases q : h + kk < fs.length
  · rw [Nat.mod_eq_of_lt q] at e
    subst e
    rw [List.set_append_left _ _ (by rw [List.length_drop]; omega), List.take_set_of_le (by omega)]
    congr 1
    rw [List.drop_set, if_neg (by omega)]
    congr 1; omega
  · rw [Nat.mod_eq_sub_mod (by omega), Nat.mod_eq_of_lt (by omega)] at e
    rw [List.set_append_right _ _ (by rw [List.length_drop]; omega), List.length_drop, List.drop_set_of_lt (by omega)]
    congr 1
    rw [List.take_set]
    congr 1; omega
set_option maxHeartbeats 8000000 in
set_option maxRecDepth 20000 in
theorem walk (w : World) (nn : Int) (v : Value) (cs : List Call) (wf : (Lit.int .i64 nn).wf = true) (hs : Script w v cs) :
    Calls Try.prog 3 #[.int .i64 nn, v] w fun e w' => e = .returned (.bool true) ∧ Below w.heap.size w w' := by
  by_cases hin : 1 ≤ nn ∧ nn ≤ 64
  · obtain ⟨n, rfl⟩ : ∃ n : Nat, nn = n := ⟨nn.toNat, by omega⟩
    have hn1 : 1 ≤ n := by omega
    have hn64 : n ≤ 64 := by omega
    have i1 : ¬ (n : Int) < 1 := by omega
    have i2 : ¬ (n : Int) > 64 := by omega
    have hnew := new_some n hn1 hn64 w
    have HRN : Hid _ := fun w' => rnew_any n hn1 hn64 w'
    obtain ⟨oa, cap0, rfl, hlen, hcs⟩ := hs
    obtain ⟨m, HN⟩ : ∃ m, Hid (cs.length = m) := ⟨_, rfl⟩
    rw [HN.out] at hcs hlen ⊢
    have HCS : Hid _ := hcs
    have hz29 := zero29
    clear hcs hin
    go_enter Try.func3, Try.ntmps3
    go_upto_block 0 with (first
      | (go_at_call 8; refine hnew.mono ?_; rintro e w1 ⟨g, a, he, hg, ha, c1, b1⟩; obtain rfl := he; have HG : Hid (w.heap.size ≤ g) := hg; have HA : Hid (w.heap.size ≤ a) := ha; clear hg ha)
      | (go_at_call 10; refine (HRN.out _).mono ?_; clear HRN; rintro e w0 ⟨r, b, cap, cur, he, cr, b0⟩; obtain rfl := he))
    have hF : Hid (∀ k, two g a k → w.heap.size ≤ k) := fun k hk => by
      rcases hk with rfl | rfl
      · exact HG.out
      · exact HA.out
    obtain ⟨R0, HRR⟩ : ∃ R0, Hid (w1.heap.size = R0) := ⟨_, rfl⟩
    have HGA : Hid (∀ q, two g a q → q < R0) := fun q hq => by rw [← HRR.out]; exact c1.lt hq
    have HR0 : Hid (w.heap.size ≤ R0) := by show _ ≤ _; rw [← HRR.out]; exact b1.size
    rw [HRR.out] at cr
    have c0 := c1.below b0
    have B0 := b1.trans (b0.mono b1.size)
    clear c1 b1 b0 hnew HRR
    go_wp2_with fail
    go_loopw [7] (fun i wr => ∃ (k : Nat) (fs : List Fr) (h b cap : Nat) (cur : Array Value), i = .int .i64 k ∧ k ≤ 80 ∧ Hid (fs.length = n) ∧ CAt wr g a fs h (k : Int) ∧ RAt wr r b cap cur (ring fs h) R0 ∧ Below w.heap.size w wr) (fun c _ => 80 - (intOf c).toNat)
    case atStart => exact ⟨0, _, _, b, cap, cur, rfl, by omega, newF_length n, c0, by have : ring (newF n) 0 = newF n := by unfold ring; simp
                                                                                      rw [this]; exact cr, B0⟩
    case round =>
      clear c0 B0 cr
      obtain ⟨k, fs, h, b, cap, cur, rfl, hk, HL, D, CR0, rb⟩ := hrel
      by_cases hkl : k < m
      · have hkl' : (k : Int) < (m : Int) := by omega
        by_cases hk80 : k < 80
        · have hk80' : (k : Int) < 80 := by omega
          obtain ⟨A, ⟨kd, i, bb⟩, hoa, hck, hcell⟩ := HCS.out k hkl
          subst hoa
          have hcw : ∀ j u, [Value.int .i64 kd, .int .i64 i, .bool bb][j]? = some u → wr.cell? ((A.add (k * 3)).add j) = some u := fun j u hj => cell_keep (hcell j u hj) rb
          clear hcell hck
          have z0 : Row (wr.alloc (.cells #[.int .i64 0, .int .i64 0, .bool false] 29)) wr.heap.size #[.int .i64 0, .int .i64 0, .bool false] 29 := Row.new _ _ _
          have r2 : Row ((wr.alloc (.cells #[.int .i64 0, .int .i64 0, .bool false] 29)).setRow wr.heap.size #[.int .i64 kd, .int .i64 i, .bool bb]) wr.heap.size #[.int .i64 kd, .int .i64 i, .bool bb] 29 := z0.set _
          have b2 : Below wr.heap.size wr ((wr.alloc (.cells #[.int .i64 0, .int .i64 0, .bool false] 29)).setRow wr.heap.size #[.int .i64 kd, .int .i64 i, .bool bb]) := below_setRow ((Below.refl _ _).alloc (Nat.le_refl _) _) (Nat.le_refl _) _
          have D0 := D.below b2
          have CR1 := CR0.below b2
          have rb0 := rb.trans (b2.mono rb.size)
          have HTW : Hid (∀ q, two g a q → q < wr.heap.size) := fun q hq => D.lt hq
          have HRB : Hid (r < wr.heap.size ∧ b < wr.heap.size) := ⟨CR0.row.lt, CR0.arr.lt⟩
          have hdo := do_any D0 (by omega) kd i bb
          have tl : Hid (1 = 1) := rfl
          have ts : Hid (1 = 1) := rfl
          have tm : Hid (1 = 1) := rfl
          clear D CR0
          go_upto_region 12 with (first
            | (have hh := tl; clear hh tl; refine wpList_load_any rfl 29 (.tmp 44) rfl (A.add (k * 3)) rfl [.int .i64 kd, .int .i64 i, .bool bb] _ hcw Try.underlying29 rfl size29 ?_)
            | (have hh := ts; clear hh ts; refine store_cells rfl 29 (.tmp 8) (.tmp 45) rfl wr.heap.size #[.int .i64 kd, .int .i64 i, .bool bb] rfl rfl 29 _ z0 3 size29 rfl rfl (by simp [Value.oneCell']) ?_)
            | (have hh := tm; clear hh tm; refine wpList_load_mid rfl 29 (.tmp 8) rfl wr.heap.size 0 rfl [.int .i64 kd, .int .i64 i, .bool bb] _ (range_op r2) Try.underlying29 rfl size29 ?_)
            | (go_at_call 11; refine hdo.mono ?_; clear hdo; rintro e w2 ⟨z, ok, fs', h', he, hact, CD, o2⟩; obtain rfl := he))
          have rb2 : Below w.heap.size w w2 := rb0.trans (o2.below rb0.size hF.out)
          have HL2 : Hid (fs'.length = n) := (acted_length hact).trans HL.out
          have rO : Row w2 wr.heap.size #[.int .i64 kd, .int .i64 i, .bool bb] 29 := r2.off o2 (fun q => by have := HTW.out _ q; omega)
          have CR : RAt w2 r b cap cur (ring fs h) R0 := CR1.off o2 (fun q hq => HGA.out q hq)
          have hnos := D0.nos
          have hhand := D0.hand
          have hpins := D0.pins
          clear r2 o2 rb0 CR1 z0 b2 hcw D0
          have HACT : Hid _ := hact
          clear hact
          have k0 := row_at rO 0 (.int .i64 kd) rfl
          have k1 := row_at rO 1 (.int .i64 i) rfl
          have k2 := row_at rO 2 (.bool bb) rfl
          have HAT : ∃ FP : Option Addr, Hid ((∃ (no kk : Nat) (sn cd : Bool) (p : Int), i = no ∧ kk < n ∧ fs[no]? = some ⟨no, sn, cd, p⟩ ∧ (ring fs h)[kk]? = some ⟨no, sn, cd, p⟩ ∧ (∀ y, (ring fs h).set kk y = ring (fs.set no y) h) ∧ 0 ≤ p ∧ p ≤ (k : Int) ∧ FP = some ⟨b, kk * 4, none⟩) ∨ (¬ (0 ≤ i ∧ i < fs.length) ∧ FP = none)) ∧ Calls Try.prog 12 #[.pointer (some ⟨r, 0, none⟩), .int .i64 i] w2 fun e w' => e = .returned (.pointer FP) ∧ w' = w2 := by
            by_cases hin : 0 ≤ i ∧ i < n
            · obtain ⟨j, hj⟩ : ∃ j : Nat, i = j := ⟨i.toNat, by omega⟩
              subst hj
              have hjn : j < fs.length := by rw [HL.out]; omega
              obtain ⟨kk, hkk, hmod, hfind, hfirst⟩ := ring_find hnos hhand hjn
              rw [List.getElem?_eq_getElem hjn] at hfind
              have hxno := hnos j _ (List.getElem?_eq_getElem hjn)
              have hxp := hpins _ (List.getElem_mem hjn)
              have hxj : fs[j]? = some fs[j] := List.getElem?_eq_getElem hjn
              have hset := fun y => ring_set hhand hkk hmod y
              generalize fs[j] = x at hfind hxno hxp hxj
              obtain ⟨no, sn, cd, p⟩ := x
              simp only at hxno hxp
              subst hxno
              have hat := at_some CR kk _ hfind (fun i y hi hy => hfirst i y hi hy)
              exact ⟨_, Or.inl ⟨no, kk, sn, cd, p, rfl, by rw [← HL.out]; exact hkk, hxj, hfind, hset, hxp.1, hxp.2, rfl⟩, hat⟩
            · have hat := at_none CR i (fun y hy e => hin (by
                obtain ⟨j, hj, rfl⟩ := List.getElem_of_mem (mem_ring.1 hy)
                have := hnos j _ (List.getElem?_eq_getElem hj)
                rw [HL.out] at hj
                omega))
              exact ⟨none, Or.inr ⟨by rw [HL.out]; exact hin, rfl⟩, hat⟩
          obtain ⟨FP, HFP, hat⟩ := HAT
          clear hnos hhand hpins
          go_upto_if 58 with (go_at_call 12; refine hat.mono ?_; clear hat; rintro e wb ⟨he, hww⟩; rw [hww]; clear hww wb; obtain rfl := he)
          go_cut [11, 12] from 32 to 148 (fun b2 is2 wx => b2 = .int .i64 z ∧ is2 = .bool ok ∧ ∃ (b' cap' : Nat) (cur' : Array Value), RAt wx r b' cap' cur' (ring fs' h') R0 ∧ CAt wx g a fs' h' ((k : Int) + 1) ∧ Below w.heap.size w wx)
          case first =>
            by_cases k5 : kd = 5
            · subst k5
              have hrv := rvictim_any CR
              have HACT5 : Hid (∀ vv ok2 L2, Vict (ring fs h) vv ok2 L2 → z = (vv : Int) ∧ ok = ok2 ∧ L2 = ring fs' h') := fun vv ok2 L2 q => by
                rcases HACT.out with ⟨_, v5, e5, hv5, _⟩ | ⟨q5, _⟩
                · obtain ⟨e1, e2, e3⟩ := Vict.det hv5 q
                  exact ⟨by rw [e5, e1], e2, e3.symm⟩
                · exact absurd rfl q5
              go_wp2_with (first
                | (go_at_call 13; refine hrv.mono ?_; clear hrv; rintro e w5 ⟨v5, ok5, L5, b5, cap5, cur5, he, hV5, C5, o5⟩; obtain rfl := he))
              go_meet
              case rel =>
                obtain ⟨e1, e2, e3⟩ := HACT5.out _ _ _ hV5
                rw [e3] at C5
                exact ⟨by rw [e1], by rw [e2], b5, cap5, cur5, C5, CD.off o5 (fun q hq e => by have := HGA.out q hq; omega), rb2.trans (o5.below rb2.size (fun q e => Nat.le_trans HR0.out e))⟩
            · obtain ⟨ez, eok, eup, ehh⟩ : z = 0 ∧ ok = okF kd i fs ∧ fs' = upd kd i bb fs ∧ h' = h := by
                rcases HACT.out with ⟨q5, _⟩ | ⟨_, q1, q2, q3, q4⟩
                · exact absurd q5 k5
                · exact ⟨q1, q2, q3, q4⟩
              have q5 : (kd == 5) = false := by simpa using k5
              rcases HFP.out with ⟨no, kk, sn, cd, p, hino, hkk, hxj, hxk, hset, hp0, hpk, hfp⟩ | ⟨hin2, hfp⟩
              · subst hfp
                subst hino
                obtain ⟨u1, u2⟩ := upd_in (k := kd) (b := bb) hxj
                subst ez
                rw [u2] at eok
                rw [u1] at eup
                have HOK : Hid (ok = decide (kd = 2 ∧ ¬ p = 0)) := eok
                have HUP : Hid (fs' = fs.set no (upF kd bb ⟨no, sn, cd, p⟩)) := eup
                have HH : Hid (h' = h) := ehh
                have HXJ : Hid _ := hxj
                obtain ⟨LL, HLL0⟩ : ∃ LL, Hid (ring fs h = LL) := ⟨_, rfl⟩
                have HLL : Hid (LL.length = n) := by show _ = _; rw [← HLL0.out, ring_length, HL.out]
                rw [HLL0.out] at CR hxk hset
                have HSET : Hid (∀ y, LL.set kk y = ring (fs.set no y) h) := hset
                clear eok eup ehh u1 u2 HACT hxj hset HFP
                go_upto_region 17 with fail
                by_cases h0 : kd = 0
                · subst h0
                  have CR1 := CR.turn (y := ⟨no, true, cd, p⟩) hxk 1 (by omega) (.bool true) rfl
                  have f0 := row_frozen CR.arr (kk * 4 + 1)
                  have c0x := CR.cell (i := kk) (x := ⟨no, sn, cd, p⟩) hxk 1 (by omega) _ rfl
                  have CD1 : CAt (w2.setCell ⟨b, kk * 4 + 1, none⟩ (.bool true)) g a fs' h' ((k : Int) + 1) := CD.off (F := fun j => R0 ≤ j) (Off.of_setCell _ _ _ CR.lob) (fun q hq e => by have := HGA.out q hq; omega)
                  have rb21 : Below w.heap.size w (w2.setCell ⟨b, kk * 4 + 1, none⟩ (.bool true)) := rb2.trans ((Off.of_setCell (F := fun j => R0 ≤ j) w2 ⟨b, kk * 4 + 1, none⟩ (.bool true) CR.lob).below rb2.size (fun q e => Nat.le_trans HR0.out e))
                  have HE : Hid ((LL.set kk ⟨no, true, cd, p⟩) = ring fs' h') := by
                    show _ = _
                    rw [HUP.out, HH.out]; exact HSET.out ⟨no, true, cd, p⟩
                  rw [HE.out] at CR1
                  clear HE
                  go_wp2_with fail
                  go_meet
                  case rel => exact ⟨rfl, by rw [HOK.out]; rfl, _, _, _, CR1, CD1, rb21⟩
                by_cases h1 : kd = 1
                · subst h1
                  have hwr : IntKind.i64.wrap (p + 1) = p + 1 := by rw [IntKind.wrap_i64]; omega
                  have x3 := CR.cell hxk 3 (by omega) _ rfl
                  have CR1 := CR.turn (y := ⟨no, sn, cd, p + 1⟩) hxk 3 (by omega) (.int .i64 (p + 1)) rfl
                  have f0 := row_frozen CR.arr (kk * 4 + 3)
                  have c0x := CR.cell (i := kk) (x := ⟨no, sn, cd, p⟩) hxk 3 (by omega) _ rfl
                  have CD1 : CAt (w2.setCell ⟨b, kk * 4 + 3, none⟩ (.int .i64 (p + 1))) g a fs' h' ((k : Int) + 1) := CD.off (F := fun j => R0 ≤ j) (Off.of_setCell _ _ _ CR.lob) (fun q hq e => by have := HGA.out q hq; omega)
                  have rb21 : Below w.heap.size w (w2.setCell ⟨b, kk * 4 + 3, none⟩ (.int .i64 (p + 1))) := rb2.trans ((Off.of_setCell (F := fun j => R0 ≤ j) w2 ⟨b, kk * 4 + 3, none⟩ (.int .i64 (p + 1)) CR.lob).below rb2.size (fun q e => Nat.le_trans HR0.out e))
                  have HE : Hid ((LL.set kk ⟨no, sn, cd, p + 1⟩) = ring fs' h') := by
                    show _ = _
                    rw [HUP.out, HH.out]; exact HSET.out ⟨no, sn, cd, p + 1⟩
                  rw [HE.out] at CR1
                  clear HE
                  go_wp2_with fail
                  go_meet
                  case rel => exact ⟨rfl, by rw [HOK.out]; rfl, _, _, _, CR1, CD1, rb21⟩
                by_cases h2 : kd = 2
                · by_cases hpz : p = 0
                  · subst h2
                    subst hpz
                    have x3 := CR.cell hxk 3 (by omega) _ rfl
                    have HE : Hid (LL = ring fs' h') := by
                      show _ = _
                      rw [HUP.out, HH.out]
                      have : upF 2 bb ⟨no, sn, cd, 0⟩ = ⟨no, sn, cd, 0⟩ := by simp [upF]
                      rw [this, set_same HXJ.out, HLL0.out]
                    rw [HE.out] at CR
                    clear HE
                    go_wp2_with fail
                    go_meet
                    case rel => exact ⟨rfl, by rw [HOK.out]; rfl, _, _, _, CR, CD, rb2⟩
                  · subst h2
                    have hp0 : ¬ p = 0 := hpz
                    have hwr : IntKind.i64.wrap (p - 1) = p - 1 := by rw [IntKind.wrap_i64]; omega
                    have x3 := CR.cell hxk 3 (by omega) _ rfl
                    have hpg : p > 0 := by omega
                    have HUP2 : Hid (fs' = fs.set no ⟨no, sn, cd, p - 1⟩) := by show _ = _; rw [HUP.out]; simp [upF, hp0]
                    have HOK2 : Hid (ok = true) := by show _ = _; rw [HOK.out]; simp [hp0]
                    have CR1 := CR.turn (y := ⟨no, sn, cd, p - 1⟩) hxk 3 (by omega) (.int .i64 (p - 1)) rfl
                    have f0 := row_frozen CR.arr (kk * 4 + 3)
                    have c0x := CR.cell (i := kk) (x := ⟨no, sn, cd, p⟩) hxk 3 (by omega) _ rfl
                    have CD1 : CAt (w2.setCell ⟨b, kk * 4 + 3, none⟩ (.int .i64 (p - 1))) g a fs' h' ((k : Int) + 1) := CD.off (F := fun j => R0 ≤ j) (Off.of_setCell _ _ _ CR.lob) (fun q hq e => by have := HGA.out q hq; omega)
                    have rb21 : Below w.heap.size w (w2.setCell ⟨b, kk * 4 + 3, none⟩ (.int .i64 (p - 1))) := rb2.trans ((Off.of_setCell (F := fun j => R0 ≤ j) w2 ⟨b, kk * 4 + 3, none⟩ (.int .i64 (p - 1)) CR.lob).below rb2.size (fun q e => Nat.le_trans HR0.out e))
                    have HE : Hid ((LL.set kk ⟨no, sn, cd, p - 1⟩) = ring fs' h') := by
                      show _ = _
                      rw [HUP2.out, HH.out]; exact HSET.out ⟨no, sn, cd, p - 1⟩
                    rw [HE.out] at CR1
                    clear HE
                    go_wp2_with fail
                    go_meet
                    case rel => exact ⟨rfl, by rw [HOK2.out], _, _, _, CR1, CD1, rb21⟩
                by_cases h3 : kd = 3
                · subst h3
                  have CR1 := CR.turn (y := ⟨no, sn, bb, p⟩) hxk 2 (by omega) (.bool bb) rfl
                  have f0 := row_frozen CR.arr (kk * 4 + 2)
                  have c0x := CR.cell (i := kk) (x := ⟨no, sn, cd, p⟩) hxk 2 (by omega) _ rfl
                  have CD1 : CAt (w2.setCell ⟨b, kk * 4 + 2, none⟩ (.bool bb)) g a fs' h' ((k : Int) + 1) := CD.off (F := fun j => R0 ≤ j) (Off.of_setCell _ _ _ CR.lob) (fun q hq e => by have := HGA.out q hq; omega)
                  have rb21 : Below w.heap.size w (w2.setCell ⟨b, kk * 4 + 2, none⟩ (.bool bb)) := rb2.trans ((Off.of_setCell (F := fun j => R0 ≤ j) w2 ⟨b, kk * 4 + 2, none⟩ (.bool bb) CR.lob).below rb2.size (fun q e => Nat.le_trans HR0.out e))
                  have HE : Hid ((LL.set kk ⟨no, sn, bb, p⟩) = ring fs' h') := by
                    show _ = _
                    rw [HUP.out, HH.out]; exact HSET.out ⟨no, sn, bb, p⟩
                  rw [HE.out] at CR1
                  clear HE
                  go_wp2_with fail
                  go_meet
                  case rel => exact ⟨rfl, by rw [HOK.out]; rfl, _, _, _, CR1, CD1, rb21⟩
                by_cases h4 : kd = 4
                · subst h4
                  have CR1 := CR.turn (y := ⟨no, false, cd, p⟩) hxk 1 (by omega) (.bool false) rfl
                  have f0 := row_frozen CR.arr (kk * 4 + 1)
                  have c0x := CR.cell (i := kk) (x := ⟨no, sn, cd, p⟩) hxk 1 (by omega) _ rfl
                  have CD1 : CAt (w2.setCell ⟨b, kk * 4 + 1, none⟩ (.bool false)) g a fs' h' ((k : Int) + 1) := CD.off (F := fun j => R0 ≤ j) (Off.of_setCell _ _ _ CR.lob) (fun q hq e => by have := HGA.out q hq; omega)
                  have rb21 : Below w.heap.size w (w2.setCell ⟨b, kk * 4 + 1, none⟩ (.bool false)) := rb2.trans ((Off.of_setCell (F := fun j => R0 ≤ j) w2 ⟨b, kk * 4 + 1, none⟩ (.bool false) CR.lob).below rb2.size (fun q e => Nat.le_trans HR0.out e))
                  have CR2 := CR1.turn (i := kk) (x := ⟨no, false, cd, p⟩) (y := ⟨no, false, false, p⟩) (by rw [List.getElem?_set_self (by rw [HLL.out]; exact hkk)]) 2 (by omega) (.bool false) rfl
                  rw [List.set_set] at CR2
                  have f1 := row_frozen CR1.arr (kk * 4 + 2)
                  have c1x := CR1.cell (i := kk) (x := ⟨no, false, cd, p⟩) (by rw [List.getElem?_set_self (by rw [HLL.out]; exact hkk)]) 2 (by omega) _ rfl
                  have CD2 : CAt ((w2.setCell ⟨b, kk * 4 + 1, none⟩ (.bool false)).setCell ⟨b, kk * 4 + 2, none⟩ (.bool false)) g a fs' h' ((k : Int) + 1) := CD1.off (F := fun j => R0 ≤ j) (Off.of_setCell _ _ _ CR1.lob) (fun q hq e => by have := HGA.out q hq; omega)
                  have rb22 : Below w.heap.size w ((w2.setCell ⟨b, kk * 4 + 1, none⟩ (.bool false)).setCell ⟨b, kk * 4 + 2, none⟩ (.bool false)) := rb21.trans ((Off.of_setCell (F := fun j => R0 ≤ j) (w2.setCell ⟨b, kk * 4 + 1, none⟩ (.bool false)) ⟨b, kk * 4 + 2, none⟩ (.bool false) CR1.lob).below rb21.size (fun q e => Nat.le_trans HR0.out e))
                  have HE : Hid ((LL.set kk ⟨no, false, false, p⟩) = ring fs' h') := by
                    show _ = _
                    rw [HUP.out, HH.out]; exact HSET.out ⟨no, false, false, p⟩
                  rw [HE.out] at CR2
                  clear HE
                  go_wp2_with fail
                  go_meet
                  case rel => exact ⟨rfl, by rw [HOK.out]; rfl, _, _, _, CR2, CD2, rb22⟩
                have HE : Hid (LL = ring fs' h') := by
                  show _ = _
                  rw [HUP.out, HH.out]
                  have : upF kd bb ⟨no, sn, cd, p⟩ = ⟨no, sn, cd, p⟩ := by simp [upF, h0, h1, h2, h3, h4]
                  rw [this, set_same HXJ.out, HLL0.out]
                rw [HE.out] at CR
                clear HE
                have q0 : (kd == 0) = false := by simpa using h0
                have q1 : (kd == 1) = false := by simpa using h1
                have q2 : (kd == 2) = false := by simpa using h2
                have q3 : (kd == 3) = false := by simpa using h3
                have q4 : (kd == 4) = false := by simpa using h4
                go_wp2_with fail
                go_meet
                case rel => exact ⟨rfl, by rw [HOK.out]; simp [h2], _, _, _, CR, CD, rb2⟩
              · subst hfp
                obtain ⟨u1, u2⟩ := upd_out (k := kd) (b := bb) hin2
                rw [u2] at eok
                rw [u1] at eup
                subst ez eok eup ehh
                clear u1 u2 hin2 HACT HFP
                go_wp2_with fail
                go_meet
                case rel => exact ⟨rfl, rfl, _, _, _, CR, CD, rb2⟩
          case rest =>
            obtain ⟨rfl, rfl, b', cap', cur', CR3, CD3, rb3⟩ := hcut
            clear CR CD rb2 rO k0 k1 k2 HACT HFP
            go_wp2_with fail
            go_loopw [13, 14] (fun _ q wy => ∃ (j : Int), q = .int .i64 j ∧ -1 ≤ j ∧ j ≤ (n : Int) + 1 ∧ RAt wy r b' cap' cur' (ring fs' h') R0 ∧ CAt wy g a fs' h' ((k : Int) + 1) ∧ Below w.heap.size w wy) (fun _ q _ => ((n : Int) + 1 - intOf q).toNat)
            case atStart => exact ⟨-1, rfl, by omega, by omega, CR3, CD3, rb3⟩
            case round =>
              clear CR3 CD3 rb3
              obtain ⟨j, rfl, hj1, hj2, C3, D3, rb3⟩ := hrel
              by_cases hjn : j ≤ (n : Int)
              · have hw1 : IntKind.i64.wrap (j + 1) = j + 1 := by rw [IntKind.wrap_i64]; omega
                by_cases hin : 0 ≤ j ∧ j < n
                · obtain ⟨jj, hjj⟩ : ∃ jj : Nat, j = jj := ⟨j.toNat, by omega⟩
                  subst hjj
                  have hjl : jj < fs'.length := by rw [HL2.out]; omega
                  obtain ⟨kk, hkk, hmod, hfind, hfirst⟩ := ring_find D3.nos D3.hand hjl
                  rw [List.getElem?_eq_getElem hjl] at hfind
                  have hxno := D3.nos jj _ (List.getElem?_eq_getElem hjl)
                  have hxj : fs'[jj]? = some fs'[jj] := List.getElem?_eq_getElem hjl
                  generalize fs'[jj] = x at hfind hxno hxj
                  obtain ⟨no, sn, cd, p⟩ := x
                  simp only at hxno
                  subst hxno
                  have hat := at_some C3 kk _ hfind (fun i y hi hy => hfirst i y hi hy)
                  have x3 := C3.cell hfind 3 (by omega) _ rfl
                  have HPI : Hid (∀ q, Calls Try.prog 14 #[.pointer (some ⟨g, 0, none⟩), .int .i64 no] (wr.drewN q) fun e w' => e = .returned (.int .i64 p) ∧ w' = wr.drewN q) := fun q => pins_in (D3.below (below_drewN (Below.refl _ _) q)) no _ hxj
                  simp only at hat x3
                  clear hfind hfirst hmod hxj hjl hkk hin
                  go_upto_region 37 with (go_at_call 12; refine hat.mono ?_; clear hat; rintro e wb ⟨he, hww⟩; rw [hww]; clear hww wb; obtain rfl := he)
                  go_quiet (first | (go_at_call 14; exact Calls.quiet_of_same (HPI.out _)))
                  go_wp2_with fail
                  go_roundw
                  case rel => exact ⟨(no : Int) + 1, by first | rfl | rw [hw1], by omega, by omega, C3.below (below_drewN (Below.refl _ _) _), D3.below (below_drewN (Below.refl _ _) _), below_drewN rb3 _⟩
                  case measure => simp [intOf]; omega
                · have hat := at_none C3 j (fun y hy e => hin (by
                    obtain ⟨i, hi, rfl⟩ := List.getElem_of_mem (mem_ring.1 hy)
                    have := D3.nos i _ (List.getElem?_eq_getElem hi)
                    rw [HL2.out] at hi
                    omega))
                  have HPI : Hid (∀ q, Calls Try.prog 14 #[.pointer (some ⟨g, 0, none⟩), .int .i64 j] (wr.drewN q) fun e w' => e = .returned (.int .i64 0) ∧ w' = wr.drewN q) := fun q => pins_out _ j _ (by
                    have := has_any (D3.below (below_drewN (Below.refl _ _) q)) j
                    rwa [decide_eq_false (by rw [HL2.out]; exact hin)] at this)
                  clear hin
                  go_upto_region 37 with (go_at_call 12; refine hat.mono ?_; clear hat; rintro e wb ⟨he, hww⟩; rw [hww]; clear hww wb; obtain rfl := he)
                  go_quiet (first | (go_at_call 14; exact Calls.quiet_of_same (HPI.out _)))
                  go_wp2_with fail
                  go_roundw
                  case rel => exact ⟨j + 1, by first | rfl | rw [hw1], by omega, by omega, C3.below (below_drewN (Below.refl _ _) _), D3.below (below_drewN (Below.refl _ _) _), below_drewN rb3 _⟩
                  case measure => simp [intOf]; omega
              · go_wp2_with fail
                go_roundw
                case rel => exact ⟨k + 1, fs', h', b', cap', cur', by go_num, by omega, HL2, D3, C3, rb3⟩
                case measure => simp [intOf]; omega
        · have hk80' : ¬ (k : Int) < 80 := by omega
          go_wp2_with (go_at_call 9; refine (awake_any _).mono ?_; rintro e w3 ⟨he, b3⟩; obtain rfl := he)
          go_ret
          exact ⟨rfl, rb.trans (b3.mono rb.size)⟩
      · have hkl' : ¬ (k : Int) < (m : Int) := by omega
        go_wp2_with (go_at_call 9; refine (awake_any _).mono ?_; rintro e w3 ⟨he, b3⟩; obtain rfl := he)
        go_ret
        exact ⟨rfl, rb.trans (b3.mono rb.size)⟩
  · have hnew := new_none nn hin w
    by_cases hlo : nn < 1
    · clear hin
      go_enter Try.func3, Try.ntmps3
      go_wp2_with (first
        | (go_at_call 8; refine hnew.mono ?_; rintro e wb ⟨he, hww⟩; rw [hww]; clear hww wb; obtain rfl := he)
        | (go_at_call 9; refine (awake_any _).mono ?_; rintro e w3 ⟨he, b3⟩; obtain rfl := he))
      go_ret
      exact ⟨rfl, b3⟩
    · have hhi : nn > 64 := by omega
      clear hin
      go_enter Try.func3, Try.ntmps3
      go_wp2_with (first
        | (go_at_call 8; refine hnew.mono ?_; rintro e wb ⟨he, hww⟩; rw [hww]; clear hww wb; obtain rfl := he)
        | (go_at_call 9; refine (awake_any _).mono ?_; rintro e w3 ⟨he, b3⟩; obtain rfl := he))
      go_ret
      exact ⟨rfl, b3⟩

set_option maxRecDepth 100000 in
theorem lifted (os : Os) (started : os.Started) (H : Type) (enc : TypeId × Value → H) :
    ReturnsInHanded {} Try.checked os 3 .any (Rows.clockPlaysSpec.pre6 enc Try.prog Try.f3 Rows.clockPlaysRow.domain false) (Rows.clockPlaysSpec.post enc Try.prog Try.f3 false true false false) := by
  refine returnsInHanded_of_change_sized (C := Try.checked) own started (by kernel_rfl) Try.func3
    (ChangeSpec.witness6 (enc := enc) (C := Try.checked) false ⟨#[], #[.int .i64 0, .slice none 0 0], []⟩ 8 (by kernel_rfl) (by kernel_rfl) (by kernel_rfl) (by kernel_rfl)) ?_
  intro W base args ds gs before hval0 hW hcnd hsz0 _
  have hval : ∀ (j : Nat) t v, Try.f3.params[j]? = some t → args[j]? = some v → Value.okWide Try.prog W .any base t v := hval0
  have hW' := hW
  obtain ⟨p, q, hA0, hV, rfl, hfz, hnd⟩ := hW
  have hA : DataW.TrodAll enc Try.prog W 0 (fun _ => true) true Try.f3.params.toList args.toList ds p := hA0
  have hsz : (DataW.weightsEach Try.prog (Try.f3.params.toList ++ []) (ds ++ gs)).all (· ≤ reachBytes) = true := hsz0
  rw [Try.params3] at hA hval hsz
  obtain ⟨v0, vs0, d0, ds0, p0, q0, hargs, rfl, rfl, h0, r0⟩ := trodAll_cons hA
  obtain ⟨v1, vs1, d1, ds1, p1, q1, rfl, rfl, rfl, h1, r1⟩ := trodAll_cons r0
  obtain ⟨rfl, rfl, rfl⟩ := trodAll_nil r1
  obtain rfl : args = #[v0, v1] := by cases args; simp_all
  obtain ⟨rfl, rfl⟩ := trodVars_none hV
  simp only [List.append_nil] at hsz
  have hlt : ∀ x ∈ (p0 ++ (p1 ++ [])), x.block < W.heap.size := fun x hx => hW'.lt x (by simpa using hx)
  have hw0 : (d0.weights Try.prog 3).all (· ≤ reachBytes) = true := List.all_eq_true.2 fun m hm => List.all_eq_true.1 hsz m (by simp [DataW.weightsEach, hm])
  have hw1 : (d1.weights Try.prog 22).all (· ≤ reachBytes) = true := List.all_eq_true.2 fun m hm => List.all_eq_true.1 hsz m (by simp [DataW.weightsEach, hm])
  have k0 := h0
  have k1 := h1
  obtain ⟨a0, rfl, rfl, rfl, w0⟩ := open_int Try.underlying3 (hval 0 3 v0 rfl rfl) h0
  obtain ⟨a1, w1⟩ := open_calls (hval 1 22 v1 rfl rfl) h1 hw1
  clear hA0 hval0
  simp only [List.append_nil] at hW'
  refine (walk W a0 v1 a1 w0 w1).mono fun e W' ⟨he, hg⟩ => ?_
  subst he
  exact ⟨_, rfl, ⟨_, _, _, [], ([] ++ (p1 ++ [])), [], hW', (trodAll_cons_mk (shut_bool Try.underlying4 _) trodAll_mk0), (trodAll_cons_mk (Below.trod laidOut (by kernel_rfl) (of_decide_eq_true (by kernel_rfl)) k0 hg (fun x hx => (nomatch hx))) (trodAll_cons_mk (Below.trod laidOut (by kernel_rfl) (of_decide_eq_true (by kernel_rfl)) k1 hg (fun x hx => hlt x (by simp [hx]))) trodAll_mk0)), rfl,
    hg.frame _, fun h => by cases h⟩⟩

theorem over : Rows.clockPlaysRow.holds Try.pinned (OpenSpec.ofChange Rows.clockPlaysSpec) :=
  OpenClaim.holds_of_wide 3 Try.f3 rfl rfl rfl rfl rfl rfl rfl ⟨rfl, rfl, rfl, rfl, rfl⟩ rfl rfl rfl rfl rfl (by kernel_rfl) Try.func3 (by kernel_rfl)
    (of_decide_eq_true (by kernel_rfl)) (by unfold Func.isWrapper; first | (rw [if_pos (by decide +kernel)]; kernel_rfl) | (rw [if_neg (by decide +kernel)]; exact ⟨rfl, rfl⟩))
    (fun os started H enc _ => lifted os started H enc)

/-- The statement. -/
theorem proved : Rows.ClockPlaysSaid :=
  over
#print axioms proved
end Go.Proofs.Ytobdeijbmnenmab.clockPlays
