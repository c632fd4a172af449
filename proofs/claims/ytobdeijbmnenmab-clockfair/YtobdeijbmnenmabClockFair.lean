/-
  ClockFair (P12.4): for every number of frames and every list of calls, when nothing more is said, and none is cold, each frame that nobody holds is given up once in each round, in the same order again and again; and the fixed run comes out.
-/
import Derived.Test.YtobdeijbmnenmabFai
import Derived.BigQuiet
namespace Go.Proofs.Ytobdeijbmnenmab.clockFair
open Go.ChangeShapes Go.WideShapes Go.ChangeAt Go.RowKit
open Go.Deep
set_option linter.unusedVariables false
set_option linter.unusedSimpArgs false

theorem own : ownKnob Try.prog.godebug = none := by kernel_rfl

theorem acted_length {k i : Int} {b : Bool} {fs : List Fr} {h : Nat} {z : Int} {ok : Bool} {fs' : List Fr} {h' : Nat} (q : Acted k i b fs h z ok fs' h') : fs'.length = fs.length := by
  rcases q with ⟨_, v, rfl, hv, hs⟩ | ⟨_, _, _, rfl, _⟩
  · exact hs.1
  · unfold upd
    split
    · split
      · rw [List.length_set]
      · rfl
    · rfl
theorem k12 {n : Int} (h : 0 ≤ n ∧ n ≤ 255) : ∃ m : Nat, n % 12 = m ∧ m < 12 := ⟨(n % 12).toNat, by omega, by omega⟩
theorem fre_take {fs : List Fr} {q : Nat} {x : Fr} (hx : fs[q]? = some x) : fre (fs.take (q + 1)) = fre (fs.take q) ++ fre [x] := by
  rw [List.take_add_one, hx, fre_append]; rfl
theorem fre_ring (fs : List Fr) (h : Nat) : (fre (ring fs h)).length = (fre fs).length := by
  unfold ring
  rw [fre_append, List.length_append, Nat.add_comm, ← List.length_append, ← fre_append, List.take_append_drop]
theorem rot_at {L : List Nat} {q : Nat} (hq : q < L.length) : L.drop q ++ L.take q = L[q] :: (L.drop (q + 1) ++ L.take q) := by
  rw [List.drop_eq_getElem_cons hq]; rfl
theorem rot_next {L : List Nat} {q : Nat} (hq : q < L.length) : (L.drop (q + 1) ++ L.take q) ++ [L[q]] = L.drop (q + 1) ++ L.take (q + 1) := by
  rw [List.append_assoc, List.take_add_one, List.getElem?_eq_getElem hq]; rfl
theorem ints_snoc {L : List Nat} {q : Nat} (hq : q < L.length) : ints (L.take q) ++ [.int .i64 (L[q] : Nat)] = ints (L.take (q + 1)) := by
  unfold ints
  rw [List.take_add_one, List.getElem?_eq_getElem hq, List.map_append]; rfl
theorem nodup_at {L : List Nat} (h : L.Nodup) {i j : Nat} (hi : i < L.length) (hj : j < L.length) (hne : i ≠ j) : ¬ ((L[i] : Nat) : Int) = (L[j] : Nat) := fun e => hne ((List.getElem_inj h).1 (by exact_mod_cast e))
theorem own_low {w : World} {base : Nat} {e : TypeId} {s : Nat} {v : Value} {n : Nat} {xs : List Value} (h : w.ownsRow base e s v n xs) {k : Nat} (q : v.ownBlock = some k) : base ≤ k := (h.lt k q).1
theorem owns_form {w : World} {base : Nat} {e : TypeId} {s : Nat} {v : Value} {n : Nat} {xs : List Value} (h : w.ownsRow base e s v n xs) : ∃ oa cap, v = .slice oa n cap := by
  rcases h.2 with ⟨rfl, rfl⟩ | ⟨g, cap, cur, rfl, _⟩
  · exact ⟨none, 0, rfl⟩
  · exact ⟨_, cap, rfl⟩
theorem off_more {F : Nat → Prop} {a b : World} (h : Off F a b) (n : Nat) : Off F a (b.drewN n) := ⟨h.os, h.tape, h.output, h.size, h.block⟩
theorem off_drewN (F : Nat → Prop) (a : World) (n : Nat) : Off F a (a.drewN n) := ⟨rfl, rfl, rfl, Nat.le_refl _, fun _ _ _ => rfl⟩
theorem nums_mono {w : World} {W0 W1 : Nat} {v : Value} {L : List Nat} (h : Nums w W1 v L) (hW : W0 ≤ W1) : Nums w W0 v L := by
  obtain ⟨oa, cap, e, hc⟩ := h
  refine ⟨oa, cap, e, fun j x hx => ?_⟩
  obtain ⟨A, e1, e2, e3⟩ := hc j x hx
  exact ⟨A, e1, Nat.le_trans hW e2, e3⟩
theorem set_cold {fs : List Fr} {q : Nat} {x : Fr} (hx : fs[q]? = some x) (hc : ∀ i y, i < q → fs[i]? = some y → y.cold = false) (z : Fr) (hz : z.cold = false) : ∀ (i : Nat) (y : Fr), i < q + 1 → (fs.set q z)[i]? = some y → y.cold = false := fun i y hi hy => by
  rw [List.getElem?_set] at hy
  split at hy
  · rename_i e
    split at hy
    · cases hy; exact hz
    · cases hy
  · rename_i e; exact hc i y (by omega) hy
theorem set_fre {fs : List Fr} {q : Nat} {x : Fr} (hx : fs[q]? = some x) (z : Fr) (hz : z.pins = x.pins) : (fre ((fs.set q z).take (q + 1))).length = (fre (fs.take q)).length + (if x.pins = 0 then 1 else 0) := by
  have hq := (List.getElem?_eq_some_iff.1 hx).1
  rw [fre_take (x := z) (by simp [hq]), List.length_append, List.take_set_of_le (by omega)]
  by_cases h0 : x.pins = 0
  · rw [fre_cons_free (by rw [hz]; exact h0), if_pos h0]; rfl
  · rw [fre_cons_held (by rw [hz]; exact h0), if_neg h0]; rfl
set_option maxHeartbeats 4000000 in
set_option maxRecDepth 20000 in
theorem walk (w : World) (nn : Int) (v : Value) (cs : List Call) (wf : (Lit.int .u8 nn).wf = true) (hs : Script w v cs) :
    Calls Try.prog 6 #[.int .u8 nn, v] w fun e w' => e = .returned (.bool true) ∧ Below w.heap.size w w' := by
  have hf := bounds_u8 wf
  obtain ⟨m, hm, hm12⟩ := k12 hf
  have e1 : nn.tmod 12 = m := by rw [Int.tmod_eq_emod_of_nonneg hf.1]; exact hm
  have v1 : IntKind.u8.wrap (m : Int) = m := by rw [IntKind.wrap_u8]; omega
  have v2 : IntKind.i64.wrap (m : Int) = m := by rw [IntKind.wrap_i64]; omega
  have v3 : IntKind.i64.wrap (1 + (m : Int)) = ((m + 1 : Nat) : Int) := by rw [IntKind.wrap_i64]; omega
  have hnew := new_some (m + 1) (by omega) (by omega) w
  obtain ⟨oa, cap, rfl, hlen, hcs⟩ := hs
  obtain ⟨n, HN⟩ : ∃ n, Hid (cs.length = n) := ⟨_, rfl⟩
  rw [HN.out] at hcs hlen ⊢
  have HCS : Hid _ := hcs
  obtain ⟨K, HKK⟩ : ∃ K, Hid (m + 1 = K) := ⟨_, rfl⟩
  rw [HKK.out] at v3 hnew
  have hK1 : 1 ≤ K ∧ K ≤ 12 := by have := HKK.out; omega
  have hKa := hK1.1
  have hKb := hK1.2
  clear hcs hf hm hK1
  obtain ⟨ti, hti, htz, hts, htb⟩ := info_parts info3
  have HTI : Hid _ := And.intro hti (And.intro htz (And.intro hts htb))
  clear hti htz hts htb
  go_enter Try.func6, Try.ntmps6
  go_upto_block 0 with (first
    | (go_at_call 8; refine hnew.mono ?_; rintro e w1 ⟨g, a, he, hg, ha, c1, b1⟩; obtain rfl := he; have HG : Hid (w.heap.size ≤ g) := hg; have HA : Hid (w.heap.size ≤ a) := ha; clear hg ha))
  have hF : Hid (∀ k, two g a k → w.heap.size ≤ k) := fun k hk => by
    rcases hk with rfl | rfl
    · exact HG.out
    · exact HA.out
  clear e1 v1 v2 v3 hnew
  go_cut [7] from 28 to 43 (fun _ wx => ∃ (fs : List Fr) (h : Nat), Hid (fs.length = K) ∧ CAt wx g a fs h 61 ∧ Below w.heap.size w wx)
  case first =>
    go_wp2_with fail
    go_loopw [7] (fun i wr => ∃ (k : Nat) (fs : List Fr) (h : Nat), i = .int .i64 k ∧ k ≤ 60 ∧ Hid (fs.length = K) ∧ CAt wr g a fs h (k : Int) ∧ Below w.heap.size w wr) (fun c _ => 60 - (intOf c).toNat)
    case atStart => exact ⟨0, _, _, rfl, by omega, newF_length K, c1, b1⟩
    case round =>
      clear c1 b1
      obtain ⟨k, fs, h, rfl, hk, HL, D, rb⟩ := hrel
      by_cases hkl : k < n
      · have hkl' : (k : Int) < (n : Int) := by omega
        by_cases hk60 : k < 60
        · have hk60' : (k : Int) < 60 := by omega
          obtain ⟨A, ⟨kd, i, b⟩, hoa, hck, hcell⟩ := HCS.out k hkl
          subst hoa
          have hcw : ∀ j u, [Value.int .i64 kd, .int .i64 i, .bool b][j]? = some u → wr.cell? ((A.add (k * 3)).add j) = some u := fun j u hj => cell_keep (hcell j u hj) rb
          clear hcell hck
          have hdo := do_any D (by omega) kd i b
          have tl : Hid (1 = 1) := rfl
          go_wp2_with (first
            | (have hh := tl; clear hh tl; refine wpList_load_any rfl 29 (.tmp 41) rfl (A.add (k * 3)) rfl [.int .i64 kd, .int .i64 i, .bool b] _ hcw Try.underlying29 rfl size29 ?_)
            | (go_at_call 11; refine hdo.mono ?_; clear hdo; rintro e w2 ⟨z, ok, fs', h', he, hact, D2, o2⟩; obtain rfl := he))
          go_roundw
          case rel => exact ⟨k + 1, fs', h', by go_num, by omega, (acted_length hact).trans HL.out, D2, rb.trans (o2.below rb.size hF.out)⟩
          case measure => simp [intOf]; omega
        · have hk60' : ¬ (k : Int) < 60 := by omega
          go_wp2_with fail
          go_meet
          case rel => exact ⟨fs, h, HL, D.more (by omega) (by omega), rb⟩
      · have hkl' : ¬ (k : Int) < (n : Int) := by omega
        go_wp2_with fail
        go_meet
        case rel => exact ⟨fs, h, HL, D.more (by omega) (by omega), rb⟩
  case rest =>
    obtain ⟨fs0, h0, HL0, D0, rb0⟩ := hcut
    clear c1 b1
    go_wp2_with fail
    go_loopw [8, 9] (fun f j wr => ∃ (q : Nat) (fs : List Fr) (h : Nat), j = .int .i64 q ∧ q ≤ K ∧ f = .int .i64 ((fre (fs.take q)).length : Nat) ∧ Hid (fs.length = K) ∧ Hid (∀ (i : Nat) (x : Fr), i < q → fs[i]? = some x → x.cold = false) ∧ CAt wr g a fs h 61 ∧ Below w.heap.size w wr) (fun _ j _ => K - (intOf j).toNat)
    case atStart => exact ⟨0, fs0, h0, rfl, by omega, by rw [List.take_zero]; rfl, HL0, fun i x hi => by omega, D0, rb0⟩
    case round =>
      clear D0 rb0
      obtain ⟨q, fs, h, rfl, hq, rfl, HL, HC, D, rb⟩ := hrel
      by_cases hqK : q < K
      · have hqK' : (q : Int) < (K : Int) := by omega
        obtain ⟨⟨no, sn, cd, p⟩, hx⟩ := D.ex (i := q) (by rw [HL.out]; exact hqK)
        have hco := cold_in D q _ hx false
        have HPI : Hid (∀ wx, CAt wx g a (fs.set q ⟨no, sn, false, p⟩) h 61 → Calls Try.prog 14 #[.pointer (some ⟨g, 0, none⟩), .int .i64 q] wx fun e w' => e = .returned (.int .i64 p) ∧ w' = wx) := fun wx cx => pins_in cx q ⟨no, sn, false, p⟩ (by simp [HL.out, hqK])
        have HSC : Hid _ := set_cold hx HC.out ⟨no, sn, false, p⟩ rfl
        have hsf := set_fre hx ⟨no, sn, false, p⟩ rfl
        have HLL : Hid ((fs.set q ⟨no, sn, false, p⟩).length = K) := by show _ = _; rw [List.length_set]; exact HL.out
        simp only at hco hsf
        obtain ⟨F0, HF0⟩ : ∃ F0, Hid ((fre (fs.take q)).length = F0) := ⟨_, rfl⟩
        rw [HF0.out] at hsf ⊢
        have hF0 : F0 ≤ 12 := by
          have : (fre (fs.take q)).length ≤ (fs.take q).length := List.length_filter_le _ _
          rw [List.length_take, HF0.out] at this; omega
        clear hx
        by_cases hp : p = 0
        · rw [if_pos hp] at hsf
          have HSF : Hid _ := hsf
          clear hsf
          go_wp2_with (first
            | (go_at_call 15; refine hco.mono ?_; clear hco; rintro e w2 ⟨he, D2, o2⟩; obtain rfl := he; have hpi := HPI.out w2 D2)
            | (go_at_call 14; refine hpi.mono ?_; clear hpi; rintro e wb ⟨he, hww⟩; rw [hww]; clear hww wb; obtain rfl := he))
          go_roundw
          case rel => exact ⟨q + 1, _, h, by go_num, by omega, by rw [HSF.out]; go_num, HLL, HSC, D2, rb.trans (o2.below rb.size hF.out)⟩
          case measure => simp [intOf]; omega
        · rw [if_neg hp] at hsf
          have HSF : Hid _ := hsf
          have qp : (p == 0) = false := by simpa using hp
          clear hsf
          go_wp2_with (first
            | (go_at_call 15; refine hco.mono ?_; clear hco; rintro e w2 ⟨he, D2, o2⟩; obtain rfl := he; have hpi := HPI.out w2 D2)
            | (go_at_call 14; refine hpi.mono ?_; clear hpi; rintro e wb ⟨he, hww⟩; rw [hww]; clear hww wb; obtain rfl := he))
          go_roundw
          case rel => exact ⟨q + 1, _, h, by go_num, by omega, by rw [HSF.out]; rfl, HLL, HSC, D2, rb.trans (o2.below rb.size hF.out)⟩
          case measure => simp [intOf]; omega
      · have hqK' : ¬ (q : Int) < (K : Int) := by omega
        obtain ⟨F, HF1⟩ : ∃ F, Hid ((fre fs).length = F) := ⟨_, rfl⟩
        have hFq : (fre (fs.take q)).length = F := by rw [List.take_of_length_le (by rw [HL.out]; omega)]; exact HF1.out
        rw [hFq]
        have hF12 : F ≤ 12 := by
          have : (fre fs).length ≤ fs.length := List.length_filter_le _ _
          rw [HF1.out, HL.out] at this; omega
        have hprep : Prep wr g a K 61 F 0 := ⟨fs, h, D, fun y hy => by
            obtain ⟨j, hj, rfl⟩ := List.getElem_of_mem hy
            exact HC.out j _ (by rw [HL.out] at hj; omega) (List.getElem?_eq_getElem hj), by rw [fre_ring]; exact HF1.out, Or.inl ⟨_, [], (List.append_nil _).symm, Nat.zero_le _, fun x hx => by cases hx⟩, HL.out⟩
        clear hFq D HL HC HF1
        go_wp2_with fail
        go_loopw [10] (fun i wr => ∃ (r : Nat), i = .int .i64 r ∧ r ≤ F ∧ Prep wr g a K 61 F r ∧ Below w.heap.size w wr) (fun i _ => F - (intOf i).toNat)
        case atStart => exact ⟨0, rfl, by omega, hprep, rb⟩
        case round =>
          clear hprep rb
          obtain ⟨r, rfl, hr, PR, rb⟩ := hrel
          by_cases hrF : r < F
          · have hrF' : (r : Int) < (F : Int) := by omega
            have hvi := vict_prep PR hrF
            go_wp2_with (go_at_call 16; refine hvi.mono ?_; clear hvi; rintro e w2 ⟨vv, ok, he, P2, o2⟩; obtain rfl := he)
            go_roundw
            case rel => exact ⟨r + 1, by go_num, by omega, P2, rb.trans (o2.below rb.size hF.out)⟩
            case measure => simp [intOf]; omega
          · have hrF' : ¬ (r : Int) < (F : Int) := by omega
            have er : r = F := by omega
            have PR' := PR
            rw [er] at PR'
            obtain ⟨L, FR, hLF, hLN, hLT⟩ := PR'.fair
            have HLF : Hid (L.length = F) := hLF
            have HLN : Hid L.Nodup := hLN
            obtain ⟨W0, HW0⟩ : ∃ W0, Hid (wr.heap.size = W0) := ⟨_, rfl⟩
            rw [HW0.out] at hLT
            have HLT : Hid _ := hLT
            clear hLF hLN hLT PR PR' er
            go_wp2_with fail
            go_loopw [11, 12] (fun f r wr => ∃ (rd : Nat), r = .int .i64 rd ∧ rd ≤ 3 ∧ Hid (rd = 0 ∨ Nums wr W0 f L) ∧ Fair wr g a K 61 L ∧ Hid (W0 ≤ wr.heap.size) ∧ Below w.heap.size w wr) (fun _ r _ => 3 - (intOf r).toNat)
            case atStart => exact ⟨0, rfl, by omega, Or.inl rfl, FR, by show _ ≤ _; rw [← HW0.out]; exact Nat.le_refl _, rb⟩
            case round =>
              clear FR rb HW0
              obtain ⟨rd, rfl, hrd, HFI, FR, HWL, rb⟩ := hrel
              rename World => wo
              by_cases hr3 : rd < 3
              · have hr3' : (rd : Int) < 3 := by omega
                obtain ⟨base, HBS⟩ : ∃ base, Hid (wo.heap.size = base) := ⟨_, rfl⟩
                have HTB : Hid (∀ k, two g a k → k < base) := fun k hk => by have := HLT.out k hk; have := HWL.out; rw [← HBS.out]; omega
                go_wp2_with fail
                go_loopw [13, 14] (fun l i wx => ∃ (q : Nat) (oa : Option Addr) (cap : Nat), i = .int .i64 q ∧ q ≤ F ∧ l = .slice oa q cap ∧ Hid (wx.ownsRow base 3 1 (.slice oa q cap) q (ints (L.take q))) ∧ Fair wx g a K 61 (L.drop q ++ L.take q) ∧ Off (two g a) wo wx) (fun _ i _ => F - (intOf i).toNat)
                case atStart => exact ⟨0, none, 0, rfl, by omega, rfl, World.ownsRow_nil _ _ _ _, by rw [List.drop_zero, List.take_zero, List.append_nil]; exact FR, Off.refl _ _⟩
                case round =>
                  obtain ⟨q, oa, cap2, rfl, hq, rfl, HOW, FQ, ro⟩ := hrel
                  rename World => wx
                  by_cases hqF : q < F
                  · have hqF' : (q : Int) < (F : Int) := by omega
                    have hqL : q < L.length := by rw [HLF.out]; exact hqF
                    have FQ2 := FQ
                    rw [rot_at hqL] at FQ2
                    have hvi := vict_fair FQ2
                    rw [rot_next hqL] at hvi
                    obtain ⟨X, HX⟩ : ∃ X : Nat, Hid (L[q]'hqL = X) := ⟨L[q]'hqL, show L[q]'hqL = L[q]'hqL from rfl⟩
                    rw [HX.out] at hvi
                    clear FQ FQ2
                    go_upto_region 31 with (go_at_call 16; refine hvi.mono ?_; clear hvi; rintro e w2 ⟨he, F2, o2⟩; obtain rfl := he)
                    have OW2 := ownsRow_off HOW.out o2 HTB.out
                    have hnu : Nums w2 base (.slice oa q cap2) (L.take q) := by
                      have := Nums.of_owns (L := L.take q) (w := w2) (base := base) (v := .slice oa q cap2) (by rw [List.length_take, Nat.min_eq_left (by omega)]; exact OW2)
                      exact this
                    have HCE : Hid (∀ (j : Nat), j < q → ∃ A : Addr, oa = some A ∧ w2.cell? (A.add j) = some (.int .i64 (L.getD j 0 : Nat))) := fun j hj => by
                      obtain ⟨oa', cap', e, hc⟩ := hnu
                      have hjl : j < L.length := by omega
                      obtain ⟨A, e1, _, e3⟩ := hc j L[j] (by rw [List.getElem?_take, if_pos hj, List.getElem?_eq_getElem hjl])
                      simp only [Value.slice.injEq] at e
                      obtain ⟨rfl, _, _⟩ := e
                      exact ⟨A, e1, by rw [e3]; simp [List.getD, hjl]⟩
                    have HNE : Hid (∀ j, j < q → ((((L.getD j 0 : Nat) : Int) == (X : Int)) = false)) := fun j hj => by
                      have hjl : j < L.length := by omega
                      have := nodup_at HLN.out hjl hqL (by omega)
                      rw [HX.out] at this
                      simpa [List.getD, hjl] using this
                    have ro2 := ro.trans o2 (fun _ q => Or.inl q)
                    have HO2 : Hid _ := OW2
                    clear hnu OW2 HOW o2 ro
                    go_wp2_with fail
                    go_loop [83] (fun i => ∃ (j : Nat), i = .int .i64 j ∧ j ≤ q) (fun i => q - (intOf i).toNat)
                    case atStart => exact ⟨0, rfl, by omega⟩
                    case round =>
                      obtain ⟨j, rfl, hj⟩ := hrel
                      by_cases hjq : j < q
                      · have hjq' : (j : Int) < (q : Int) := by omega
                        obtain ⟨A, rfl, hcj⟩ := HCE.out j hjq
                        have hne := HNE.out j hjq
                        obtain ⟨Y, HY⟩ : ∃ Y : Nat, Hid (L.getD j 0 = Y) := ⟨_, rfl⟩
                        rw [HY.out] at hcj hne
                        have hne2 : ¬ (Y : Int) = (X : Int) := by simpa using hne
                        go_wp2_with fail
                        go_round
                        case rel => exact ⟨j + 1, by go_num, by omega⟩
                        case measure => simp [intOf]; omega
                      · have hjq' : ¬ (j : Int) < (q : Int) := by omega
                        obtain ⟨ti1, ti2, ti3, ti4⟩ := HTI.out
                        have hrow : Row (w2.alloc (.cells #[.int .i64 X] 3)) w2.heap.size #[.int .i64 X] 3 := Row.new _ _ _
                        have own3 : (w2.alloc (.cells #[.int .i64 X] 3)).ownsRow base 3 1 (.slice oa q cap2) q (ints (L.take q)) := ownsRow_off HO2.out (Off.of_below (F := fun _ => False) ((Below.refl _ _).alloc (Nat.le_refl _) _)) (fun _ q => q.elim)
                        have hbs : base ≤ w2.heap.size := by rw [← HBS.out]; exact ro2.size
                        have HBB : Hid _ := hbs
                        have HO3 : Hid _ := own3
                        clear own3 hbs
                        go_wp2_with (first
                          | (at_builtin; refine wpList_append_own_at _ rfl (.tmp 91) (.tmp 93) 42 rfl base 3 ti _ 1 8 Try.underlying42 ti1 ti2 ti3 ti4 rfl (by decide) _ q (ints (L.take q)) rfl HO3.out ⟨w2.heap.size, 0, none⟩ 1 1 [.int .i64 X] rfl rfl (fun j u hj => by rw [Addr.add_mid, Nat.zero_add]; exact row_at hrow j u (by simpa using hj)) (fun u hu => by simp at hu; rw [hu]; rfl) (by unfold maxLen; omega) (by omega) (by simp; have := HBB.out; omega) ?_; intro v' w3 own' gr' hn1 hn2))
                        obtain ⟨oa3, cap3, rfl⟩ := owns_form own'
                        go_roundw
                        case rel =>
                          have gb : Off (two g a) wo w3 := ro2.trans (F' := fun k => base ≤ k) ⟨gr'.os, gr'.tape, gr'.output, Nat.le_trans (by simp) gr'.size, fun k hk hn => (gr'.block k (by simp; omega) (fun e => hn (own_low HO3.out e.symm))).trans (Below.heap_alloc _ _ _ hk)⟩ (fun j hj => Or.inr (by rw [HBS.out]; exact hj))
                          refine ⟨q + 1, oa3, cap3, by go_num, by omega, rfl, ?_, ?_, gb⟩
                          · have e := ints_snoc hqL
                            rw [HX.out] at e
                            show World.ownsRow _ _ _ _ _ _ _
                            rw [← e]; exact own'
                          · refine F2.off (F := fun k => base ≤ k) ⟨gr'.os, gr'.tape, gr'.output, Nat.le_trans (by simp) gr'.size, fun k hk hn => (gr'.block k (by simp; omega) (fun e => hn (own_low HO3.out e.symm))).trans (Below.heap_alloc _ _ _ hk)⟩ (fun k hk q => by have := HTB.out k hk; omega)
                        case measure => simp [intOf]; omega
                  · have hqF' : ¬ (q : Int) < (F : Int) := by omega
                    have eq : q = F := by omega
                    subst eq
                    have eT : L.take q = L := List.take_of_length_le (by rw [HLF.out]; exact Nat.le_refl _)
                    have eD : L.drop q = [] := List.drop_eq_nil_of_le (by rw [HLF.out]; exact Nat.le_refl _)
                    rw [eT, eD, List.nil_append] at FQ
                    rw [eT] at HOW
                    have hnu : Nums wx base (.slice oa q cap2) L := Nums.of_owns (by rw [HLF.out]; exact HOW.out)
                    have hfi : rd = 0 ∨ Nums wx W0 u11 L := by
                      rcases HFI.out with q | q
                      · exact Or.inl q
                      · exact Or.inr (q.off ro HLT.out)
                    have HNU : Hid _ := hnu
                    have HFI2 : Hid _ := hfi
                    clear hnu hfi eT eD HOW
                    go_wp2_with fail
                    go_loopw [97] (fun i wy => ∃ (j : Nat), i = .int .i64 j ∧ j ≤ q ∧ Off (fun _ => False) wx wy) (fun i _ => q - (intOf i).toNat)
                    case atStart => exact ⟨0, rfl, by omega, Off.refl _ _⟩
                    case round =>
                      obtain ⟨j, rfl, hj, ry⟩ := hrel
                      by_cases hjq : j < q
                      · have hjq' : (j : Int) < (q : Int) := by omega
                        have hjl : j < L.length := by rw [HLF.out]; exact hjq
                        obtain ⟨oa4, cap4, e4, hc4⟩ := (Nums.off HNU.out ry (fun _ q => q.elim))
                        rw [HLF.out] at e4
                        obtain ⟨A4, ea, _, ec⟩ := hc4 j L[j] (List.getElem?_eq_getElem hjl)
                        simp only [Value.slice.injEq] at e4
                        obtain ⟨rfl, _, rfl⟩ := e4
                        subst ea
                        obtain ⟨Y, HY⟩ : ∃ Y : Nat, Hid (L[j]'hjl = Y) := ⟨L[j]'hjl, show L[j]'hjl = L[j]'hjl from rfl⟩
                        rw [HY.out] at ec
                        clear hc4
                        by_cases hr0 : rd = 0
                        · subst hr0
                          go_upto_region 41 with fail
                          go_quiet (fail)
                          go_wp2_with fail
                          go_roundw
                          case rel => exact ⟨j + 1, by go_num, by omega, off_more ry _⟩
                          case measure => simp [intOf]; omega
                        · rcases HFI2.out with q0 | hnf
                          · exact absurd q0 hr0
                          · obtain ⟨oa5, cap5, e5, hc5⟩ := (Nums.off hnf ry (fun _ q => q.elim))
                            rw [HLF.out] at e5
                            obtain ⟨A5, ea5, _, ec5⟩ := hc5 j L[j] (List.getElem?_eq_getElem hjl)
                            subst ea5
                            subst e5
                            rw [HY.out] at ec5
                            have hg0 : (rd : Int) > 0 := by omega
                            have hg1 : decide ((rd : Int) > 0) = true := by simpa using hg0
                            have hg2 : decide ((0 : Int) < (rd : Int)) = true := by simpa using hg0
                            have hg3 : 0 < rd := by omega
                            have hg4 : decide (0 < rd) = true := by simpa using hg3
                            clear hc5
                            go_upto_region 41 with fail
                            go_quiet (fail)
                            go_wp2_with fail
                            go_roundw
                            case rel => exact ⟨j + 1, by go_num, by omega, off_more ry _⟩
                            case measure => simp [intOf]; omega
                      · have hjq' : ¬ (j : Int) < (q : Int) := by omega
                        go_wp2_with fail
                        go_roundw
                        case rel =>
                          refine ⟨rd + 1, by go_num, by omega, Or.inr (nums_mono (Nums.off HNU.out ry (fun _ q => q.elim)) (by rw [← HBS.out]; exact HWL.out)), FQ.off ry (fun _ _ q => q), Nat.le_trans HWL.out (Nat.le_trans ro.size ry.size), ?_⟩
                          have b2 := rb.trans (ro.below rb.size hF.out)
                          exact b2.trans (ry.below b2.size (fun _ q => q.elim))
                        case measure => simp [intOf]; omega
              · have hr3' : ¬ (rd : Int) < 3 := by omega
                go_wp2_with (go_at_call 9; refine (awake_any _).mono ?_; rintro e w3 ⟨he, b3⟩; obtain rfl := he)
                go_ret
                exact ⟨rfl, rb.trans (b3.mono rb.size)⟩

set_option maxRecDepth 100000 in
theorem lifted (os : Os) (started : os.Started) (H : Type) (enc : TypeId × Value → H) :
    ReturnsInHanded {} Try.checked os 6 .any (Rows.clockFairSpec.pre6 enc Try.prog Try.f6 Rows.clockFairRow.domain false) (Rows.clockFairSpec.post enc Try.prog Try.f6 false true false false) := by
  refine returnsInHanded_of_change_sized (C := Try.checked) own started (by kernel_rfl) Try.func6
    (ChangeSpec.witness6 (enc := enc) (C := Try.checked) false ⟨#[], #[.int .u8 0, .slice none 0 0], []⟩ 8 (by kernel_rfl) (by kernel_rfl) (by kernel_rfl) (by kernel_rfl)) ?_
  intro W base args ds gs before hval0 hW hcnd hsz0 _
  have hval : ∀ (j : Nat) t v, Try.f6.params[j]? = some t → args[j]? = some v → Value.okWide Try.prog W .any base t v := hval0
  have hW' := hW
  obtain ⟨p, q, hA0, hV, rfl, hfz, hnd⟩ := hW
  have hA : DataW.TrodAll enc Try.prog W 0 (fun _ => true) true Try.f6.params.toList args.toList ds p := hA0
  have hsz : (DataW.weightsEach Try.prog (Try.f6.params.toList ++ []) (ds ++ gs)).all (· ≤ reachBytes) = true := hsz0
  rw [Try.params6] at hA hval hsz
  obtain ⟨v0, vs0, d0, ds0, p0, q0, hargs, rfl, rfl, h0, r0⟩ := trodAll_cons hA
  obtain ⟨v1, vs1, d1, ds1, p1, q1, rfl, rfl, rfl, h1, r1⟩ := trodAll_cons r0
  obtain ⟨rfl, rfl, rfl⟩ := trodAll_nil r1
  obtain rfl : args = #[v0, v1] := by cases args; simp_all
  obtain ⟨rfl, rfl⟩ := trodVars_none hV
  simp only [List.append_nil] at hsz
  have hlt : ∀ x ∈ (p0 ++ (p1 ++ [])), x.block < W.heap.size := fun x hx => hW'.lt x (by simpa using hx)
  have hw0 : (d0.weights Try.prog 5).all (· ≤ reachBytes) = true := List.all_eq_true.2 fun m hm => List.all_eq_true.1 hsz m (by simp [DataW.weightsEach, hm])
  have hw1 : (d1.weights Try.prog 22).all (· ≤ reachBytes) = true := List.all_eq_true.2 fun m hm => List.all_eq_true.1 hsz m (by simp [DataW.weightsEach, hm])
  have k0 := h0
  have k1 := h1
  obtain ⟨a0, rfl, rfl, rfl, w0⟩ := open_int Try.underlying5 (hval 0 5 v0 rfl rfl) h0
  obtain ⟨a1, w1⟩ := open_calls (hval 1 22 v1 rfl rfl) h1 hw1
  clear hA0 hval0
  simp only [List.append_nil] at hW'
  refine (walk W a0 v1 a1 w0 w1).mono fun e W' ⟨he, hg⟩ => ?_
  subst he
  exact ⟨_, rfl, ⟨_, _, _, [], ([] ++ (p1 ++ [])), [], hW', (trodAll_cons_mk (shut_bool Try.underlying4 _) trodAll_mk0), (trodAll_cons_mk (Below.trod laidOut (by kernel_rfl) (of_decide_eq_true (by kernel_rfl)) k0 hg (fun x hx => (nomatch hx))) (trodAll_cons_mk (Below.trod laidOut (by kernel_rfl) (of_decide_eq_true (by kernel_rfl)) k1 hg (fun x hx => hlt x (by simp [hx]))) trodAll_mk0)), rfl,
    hg.frame _, fun h => by cases h⟩⟩

theorem over : Rows.clockFairRow.holds Try.pinned (OpenSpec.ofChange Rows.clockFairSpec) :=
  OpenClaim.holds_of_wide 6 Try.f6 rfl rfl rfl rfl rfl rfl rfl ⟨rfl, rfl, rfl, rfl, rfl⟩ rfl rfl rfl rfl rfl (by kernel_rfl) Try.func6 (by kernel_rfl)
    (of_decide_eq_true (by kernel_rfl)) (by unfold Func.isWrapper; first | (rw [if_pos (by decide +kernel)]; kernel_rfl) | (rw [if_neg (by decide +kernel)]; exact ⟨rfl, rfl⟩))
    (fun os started H enc _ => lifted os started H enc)

/-- The statement. -/
theorem proved : Rows.ClockFairSaid :=
  over
#print axioms proved
end Go.Proofs.Ytobdeijbmnenmab.clockFair
