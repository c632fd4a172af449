/-
  LogRound: a log that is trimmed behind its texts goes on for ever in few blocks, and a scan from the told block on tells all from the trimmed place on. No conditions.
-/
import Derived.Test.YtgnedbagelhcbaaLss
namespace Go.Proofs.Ytgnedbagelhcbaa.logRound
open Go.ChangeShapes Go.WideShapes Go.ChangeAt Go.RowKit
open Go.Deep
set_option linter.unusedVariables false
set_option linter.unusedSimpArgs false

theorem own : ownKnob Try.prog.godebug = none := by kernel_rfl

set_option maxRecDepth 20000

/-- The log and its disk ahead of a round. -/
def RndI (w : World) (gl G : Nat) (n : Int) (i : Nat) (wr : World) : Prop := ∃ prev N fin d fr, RdI n i prev N fin d ∧ LStep w gl G (fun _ => False) (rdL n prev N fin fr) d (4000 * i) wr
set_option maxHeartbeats 16000000 in
theorem walk (w : World) (v : Value) (xs : List ByteArray) (z : Int) (hX : Strs w v xs) (wz : (Lit.int .u8 z).wf = true) :
    Calls Try.prog 7 #[v, .int .u8 z] w fun e w' => e = .returned (.bool true) ∧ Below w.heap.size w w' := by
  have bz := bounds_u8 wz
  clear wz
  have HA : Hid _ := awake_any
  have HND : Hid _ := new_some 64 (by decide) (by decide) w
  obtain ⟨n, Hn⟩ : ∃ n : Int, Hid (5 + z % 20 = n) := ⟨_, rfl⟩
  have hn : 5 ≤ n ∧ n ≤ 24 := by have := Hn.out; omega
  have hm1 : z.tmod 20 = z % 20 := Int.tmod_eq_emod_of_nonneg bz.1
  have hm2 : IntKind.u8.wrap (z % 20) = z % 20 := by rw [IntKind.wrap_u8]; omega
  have hm3 : IntKind.i64.wrap (z % 20) = z % 20 := by rw [IntKind.wrap_i64]; omega
  have hm4 : IntKind.i64.wrap (5 + z % 20) = 5 + z % 20 := by rw [IntKind.wrap_i64]; omega
  have HLN : Hid (∀ w1 gd L, DAt w1 gd (Dsk.new 64) L 0 → Calls Try.prog 11 #[.pointer (some ⟨gd, 0, none⟩), .int .i64 1, .int .i64 n, .int .u32 1, .slice none 0 0, .int .u32 0, .int .u64 1] w1 fun e w' => Made w1 (some ⟨gd, 0, none⟩) 1 n 1 0 1 true e w') := fun w1 gd L hD => by
    have := lnew_nil (some ⟨gd, 0, none⟩) 1 n 1 0 1 64 w1 (by omega) (by decide) (fun wa hb => size_any (hD.below hb))
    have e : okR 1 n 64 = true := by unfold okR; simp; omega
    rw [e] at this; exact this
  obtain ⟨oa, cap, rfl, hcell⟩ := hX
  have HC : Hid (∀ i, i < xs.length → ∃ (a : Addr) (s : ByteArray), oa = some a ∧ (∀ wr, Below w.heap.size w wr → wr.cell? (a.add i) = some (.string s)) ∧ s.size ≤ maxLen) := fun i hi => by
    obtain ⟨a, s, e, _, h1, h2⟩ := hcell i hi
    exact ⟨a, s, e, fun wr hb => Ck.cell_keep h1 hb, h2⟩
  clear hcell
  obtain ⟨X, HX⟩ : ∃ X, Hid (xs.length = X) := ⟨_, rfl⟩
  rw [HX.out] at HC
  rw [HX.out]
  go_enter Try.func7, Try.ntmps7
  go_upto_region 2 with fail
  rw [Hn.out]
  go_upto_region 8 with (first
    | (go_at_call 9; refine Calls.mono HND.out ?_; clear HND; rintro e w1 ⟨rfl, D1, B1⟩)
    | (go_at_call 11; refine Calls.mono (HLN.out _ _ _ D1) ?_; clear HLN; rintro e w2 ⟨B2, -, hm⟩
       obtain ⟨gl, hgl, he, hr⟩ := hm rfl
       obtain rfl := he))
  have HI0 : Hid (RndI w gl (w.heap.size + 2) n 0 w2) := ⟨[], 0, 1, Dsk.new 64, true, ⟨by simp, (fun y hy => by cases hy), ⟨by omega, by omega⟩, ⟨by omega, by omega⟩, new_well 64, fun b => Or.inl (new_seen 64 b)⟩, LStep.fresh D1 B2 hgl hr (fun _ => False) (Off.of_below B1) (fun j q => Or.inr (foot_new q))⟩
  clear D1 B1 B2 hr hgl hm hm1 hm2 hm3 hm4
  clear Hn
  generalize w.heap.size + 2 = G at HI0 ⊢
  have h3n : IntKind.i64.wrap (3 * n) = 3 * n := by rw [IntKind.wrap_i64]; omega
  obtain ⟨n3, Hn3⟩ : ∃ n3 : Nat, Hid ((n3 : Int) = 3 * n) := ⟨(3 * n).toNat, by show ((3 * n).toNat : Int) = 3 * n; omega⟩
  go_wp2
  go_loopw [8] (fun i wr => ∃ (k : Nat), k ≤ n3 ∧ i = .int .i64 k ∧ RndI w gl G n k wr) (fun i _ => n3 - (intOf i).toNat)
  case atStart => exact ⟨0, by omega, rfl, HI0.out⟩
  case round =>
    clear HI0
    obtain ⟨i, hi3, rfl, prev, N, fin, d, fr, hI, hS⟩ := hrel
    have hn3 := Hn3.out
    have hbw : Below w.heap.size w wr := by
      obtain ⟨_, _, _, _, o, _⟩ := hS
      exact o.below (Nat.le_refl _) (fun _ q => q.elim)
    by_cases hin : i < n3
    · have hin' : (i : Int) < 3 * n := by omega
      by_cases hX0 : X = 0
      · subst hX0
        go_wp2_with (go_at_call 10; refine Calls.mono (HA.out _) ?_; clear HA; rintro ex wz ⟨rfl, hz⟩)
        go_ret
        exact ⟨rfl, hbw.trans (hz.mono hbw.size)⟩
      · have hX1 : (0 : Int) < (X : Int) := by omega
        have hXn : ¬ (X : Int) = 0 := by omega
        have hmod : ((i : Int)).tmod (X : Int) = ((i % X : Nat) : Int) := by rw [Int.tmod_eq_emod_of_nonneg (by omega)]; omega
        have hml := Nat.mod_lt i (Nat.pos_of_ne_zero hX0)
        have hml' : ((i % X : Nat) : Int) < (X : Int) := by omega
        have hml0 : (0 : Int) ≤ ((i % X : Nat) : Int) := by omega
        obtain ⟨pa, s, rfl, hcs, hss⟩ := HC.out (i % X) hml
        have hcs := hcs wr hbw
        have hib : i ≤ 72 := by omega
        have hmi : i % X ≤ i := Nat.mod_le i X
        clear hn3
        generalize i % X = ix at hmod hml hml' hml0 hcs hmi
        have hw5 : IntKind.i64.wrap (ix : Int) = ix := by rw [IntKind.wrap_i64]; omega
        by_cases h1 : s.size < 1
        · have h1' : (s.size : Int) < 1 := by omega
          go_upto_region 14 with fail
          clear hcs
          obtain ⟨t, Ht⟩ : ∃ t : ByteArray, Hid (({ data := #[120] } : ByteArray) = t) := ⟨_, rfl⟩
          have ht : okF t = true := by rw [← Ht.out]; decide
          have hts : t.size ≤ maxLen := by rw [← Ht.out]; decide
          rw [Ht.out]
          obtain ⟨d1, j, hfl, hsc, hop, hI2⟩ := rd_step (fr := fr) hn (by omega) hI ht
          obtain ⟨hjB, hjS, hiL, hiE⟩ := rd_join (n := n) (i := i) (by omega) hI.num hI.fin ht
          have hF := frS_size ht
          have hap : appL (rdL n prev N fin fr) t = Lg.app (rdL n prev N fin fr) (frS t) := by
            unfold appL okA
            rw [ht, rd_full hn hI.pl ht]; rfl
          have hiv : (appL (rdL n prev N fin fr) t).Inv := by rw [hap]; exact rd_inv hn hI.pl hF (by have := hI.num; omega) (by have := hI.fin; omega)
          have HAP : Hid (Calls Try.prog 13 #[.pointer (some ⟨gl, 0, none⟩), .string t] wr fun e w' => e = .returned (.tuple #[.int .u64 fin, .int .i64 0]) ∧ LStep w gl G (fun _ => False) (appL (rdL n prev N fin fr) t) d (4000 * i) w') := by
            have h1 := LStep.app hS t (by omega) (by show prev.length ≤ _; have := hI.pl; omega) (by show ([] : List Ck.O).length ≤ 800; simp) (by show ByteArray.empty.size ≤ _; decide) ⟨by show ((ByteArray.empty.size : Nat) : Int) ≤ fin; have := hI.fin; have h0 : ByteArray.empty.size = 0 := rfl; rw [h0]; omega, by show fin ≤ _; have := hI.fin; omega⟩ ⟨by show 0 ≤ N; exact hI.num.1, by show N ≤ _; have := hI.num; omega⟩
            have e1 : appA (rdL n prev N fin fr) t = fin := by unfold appA okA; rw [ht, rd_full hn hI.pl ht]; rfl
            have e2 : appE (rdL n prev N fin fr) t = 0 := by unfold appE; rw [ht, rd_full hn hI.pl ht]; rfl
            rw [e1, e2] at h1; exact h1
          have hwh := hI.well.hi
          have hsz1 : (appL (rdL n prev N fin fr) t).fin ≤ 18446744073709551615 := by rw [hap]; unfold Lg.app; rw [sealN_fin]; show fin + ((frS t).size : Int) ≤ _; have := hI.fin; omega
          have HFH : Hid (∀ wx, LStep w gl G (fun _ => False) (appL (rdL n prev N fin fr) t) d (4000 * i) wx → Calls Try.prog 15 #[.pointer (some ⟨gl, 0, none⟩)] wx fun e w' => e = .returned (.int .i64 0) ∧ LStep w gl G (fun _ => False) (rdL n (prev ++ (rdC fin N (frS t)).map (·.off)) (N + (rdC fin N (frS t)).length) (fin + (frS t).size) false) d1 (4000 * i + 4000) w') := fun wx h => by
            have h1 := LStep.flush h hiv hsz1 (by omega) (by omega)
            rw [hfl] at h1; exact h1
          have hlen := rdC_len fin N (frS t)
          have hpl := hI.pl
          have HFM : Hid (∀ wx, LStep w gl G (fun _ => False) (rdL n (prev ++ (rdC fin N (frS t)).map (·.off)) (N + (rdC fin N (frS t)).length) (fin + (frS t).size) false) d1 (4000 * i + 4000) wx → Calls Try.prog 17 #[.pointer (some ⟨gl, 0, none⟩), .int .u64 fin] wx fun e w' => e = .returned (.int .u32 N) ∧ LStep w gl G (fun _ => False) (rdL n (prev ++ (rdC fin N (frS t)).map (·.off)) (N + (rdC fin N (frS t)).length) (fin + (frS t).size) false) d1 (4000 * i + 4000) w') := fun wx h => by
            have h1 := LStep.from h fin (by show (prev ++ _).length ≤ _; rw [List.length_append, List.length_map]; omega) (by show ([] : List Ck.O).length ≤ _; simp)
            rw [rd_from n prev N fin (frS t) hF.1 hI.pv (by have := hI.num; omega)] at h1; exact h1
          have HTM : Hid (∀ wx, LStep w gl G (fun _ => False) (rdL n (prev ++ (rdC fin N (frS t)).map (·.off)) (N + (rdC fin N (frS t)).length) (fin + (frS t).size) false) d1 (4000 * i + 4000) wx → Calls Try.prog 19 #[.pointer (some ⟨gl, 0, none⟩), .int .u64 fin] wx fun e w' => e = .returned (.tuple #[]) ∧ LStep w gl G (fun _ => False) (rdL n ((rdC fin N (frS t)).map (·.off)) (N + (rdC fin N (frS t)).length) (fin + (frS t).size) false) d1 (4000 * i + 4000) w') := fun wx h => by
            have h1 := LStep.trim h fin (by show (prev ++ _).length ≤ _; rw [List.length_append, List.length_map]; omega)
            rw [rd_trim n prev N fin (frS t) hF.1 hI.pv] at h1; exact h1
          obtain ⟨l2, Hl2⟩ : ∃ l2, Hid (rdL n ((rdC fin N (frS t)).map (·.off)) (N + (rdC fin N (frS t)).length) (fin + (frS t).size) false = l2) := ⟨_, rfl⟩
          rw [Hl2.out] at HTM
          have HTL : Hid (∀ wx, LStep w gl G (fun _ => False) l2 d1 (4000 * i + 4000) wx → Calls Try.prog 27 #[.pointer (some ⟨gl, 0, none⟩)] wx fun e w' => e = .returned (.int .u32 N) ∧ LStep w gl G (fun _ => False) l2 d1 (4000 * i + 4000) w') := fun wx h => by
            rw [← Hl2.out] at h ⊢
            have h1 := LStep.tail h (by show ((rdC fin N (frS t)).map (·.off)).length ≤ _; rw [List.length_map]; omega) (by show ([] : List Ck.O).length ≤ _; simp)
            have e1 : IntKind.u32.wrap ((rdL n ((rdC fin N (frS t)).map (·.off)) (N + (rdC fin N (frS t)).length) (fin + (frS t).size) false).next - (((rdL n ((rdC fin N (frS t)).map (·.off)) (N + (rdC fin N (frS t)).length) (fin + (frS t).size) false).last.length : Int) + (rdL n ((rdC fin N (frS t)).map (·.off)) (N + (rdC fin N (frS t)).length) (fin + (frS t).size) false).sealed.length)) = N := by
              show IntKind.u32.wrap (N + ((rdC fin N (frS t)).length : Int) - ((((rdC fin N (frS t)).map (·.off)).length : Int) + (([] : List Ck.O).length : Int))) = N
              rw [List.length_map]
              have := hI.num
              simp only [IntKind.wrap_u32, List.length_nil]; omega
            rw [e1] at h1; exact h1
          obtain ⟨fv, Hfv⟩ : ∃ fv : Int, Hid (n - ((rdC fin N (frS t)).length : Int) = fv) := ⟨_, rfl⟩
          have HFE : Hid (∀ wx, LStep w gl G (fun _ => False) l2 d1 (4000 * i + 4000) wx → Calls Try.prog 25 #[.pointer (some ⟨gl, 0, none⟩)] wx fun e w' => e = .returned (.int .i64 fv) ∧ LStep w gl G (fun _ => False) l2 d1 (4000 * i + 4000) w') := fun wx h => by
            rw [← Hl2.out] at h ⊢
            have hv2 : (rdL n ((rdC fin N (frS t)).map (·.off)) (N + (rdC fin N (frS t)).length) (fin + (frS t).size) false).Inv := by
              have := hI.num
              have := hI.fin
              refine ⟨one_in, by show 1 ≤ n ∧ n ≤ 700; omega, one_in, by show 0 ≤ N + _ ∧ N + _ ≤ _; omega, by show ByteArray.empty.size < 214; decide, by show ((ByteArray.empty.size : Nat) : Int) ≤ fin + _; have h0 : ByteArray.empty.size = 0 := rfl; rw [h0]; omega, (fun c hc => by cases hc), ?_⟩
              show (((rdC fin N (frS t)).map (·.off)).length : Int) + (([] : List Ck.O).length : Int) + wantN ((ByteArray.empty.size : Nat) : Int) ≤ n
              have h0 : ByteArray.empty.size = 0 := rfl
              rw [List.length_map, h0]
              simp only [List.length_nil]; unfold wantN; omega
            have h1 := LStep.free h hv2
            have e1 : (rdL n ((rdC fin N (frS t)).map (·.off)) (N + (rdC fin N (frS t)).length) (fin + (frS t).size) false).size - (((rdL n ((rdC fin N (frS t)).map (·.off)) (N + (rdC fin N (frS t)).length) (fin + (frS t).size) false).last.length : Int) + (rdL n ((rdC fin N (frS t)).map (·.off)) (N + (rdC fin N (frS t)).length) (fin + (frS t).size) false).sealed.length) - wantN (rdL n ((rdC fin N (frS t)).map (·.off)) (N + (rdC fin N (frS t)).length) (fin + (frS t).size) false).open_.size = fv := by
              show n - ((((rdC fin N (frS t)).map (·.off)).length : Int) + (([] : List Ck.O).length : Int)) - wantN ((ByteArray.empty.size : Nat) : Int) = fv
              have h0 : ByteArray.empty.size = 0 := rfl
              rw [List.length_map, h0, ← Hfv.out]
              simp only [List.length_nil]; unfold wantN; omega
            rw [e1] at h1; exact h1
          have HSC : Hid (∀ wx, LStep w gl G (fun _ => False) l2 d1 (4000 * i + 4000) wx → Calls Try.prog 34 #[.pointer (some ⟨G, 0, none⟩), .int .i64 1, .int .i64 n, .int .u32 N] wx fun e w' => SStep w wx gl G (fun _ => False) l2 (4000 * i + 4000) (rdC fin N (frS t), 0, d1.tick j) e w') := fun wx h => by
            have h1 := LStep.scan h 1 n N (by omega) (by have := hI.num; omega) (by omega)
            rw [hsc] at h1; exact h1
          have hsq := rd_seq N fin (frS t) hF (by have := hI.num; omega) (by have := hI.fin; omega)
          have HJO : Hid (∀ wx v, Ck.Olds wx v (rdC fin N (frS t)) → Calls Try.prog 39 #[.int .u32 N, v] wx fun e w' => ∃ v' ep, e = .returned (.tuple #[.int .u64 fin, .string (frS t), v', .int .u32 ep]) ∧ Below wx.heap.size wx w') := fun wx v h => by
            have h1 := join_any N v _ wx h (by omega) (by have := hI.num; omega) (fun c hc => (hsq.ok c hc).fits) (by have := tot_seq hsq; omega)
            refine h1.mono ?_
            rintro e w' ⟨v', rfl, _, hb⟩
            rw [hjB, hjS]
            exact ⟨v', _, rfl, hb⟩
          have HIT : Hid (∀ wx, Calls Try.prog 40 #[.int .u64 fin, .string (frS t), .int .u64 fin] wx fun e w' => ∃ g cap, e = .returned (.tuple #[.slice (some ⟨g, 0, none⟩) 1 cap, .int .u64 (fin + (frS t).size)]) ∧ w'.cell? ⟨g, 1, none⟩ = some (.string t) ∧ Below wx.heap.size wx w') := fun wx => by
            have h1 := items_any fin (frS t) fin wx (by have := hI.fin; omega) (by omega) (by have := hI.fin; omega)
            refine h1.mono ?_
            rintro e w' ⟨v', rfl, own, hb⟩
            rw [hiL] at own
            rw [hiE]
            obtain ⟨g, cap, rfl, hc⟩ := own_oneI own
            exact ⟨g, cap, rfl, hc, hb⟩
          have HEN : Hid (∀ wx, LStep w gl G (fun _ => False) l2 (d1.tick j) (4000 * i + 4000) wx → Calls Try.prog 23 #[.pointer (some ⟨gl, 0, none⟩)] wx fun e w' => e = .returned (.int .u64 (fin + (frS t).size)) ∧ LStep w gl G (fun _ => False) l2 (d1.tick j) (4000 * i + 4000) w') := fun wx h => by
            have h1 := LStep.fin h
            have e1 : l2.fin = fin + (frS t).size := by rw [← Hl2.out]; rfl
            rw [e1] at h1; exact h1
          have HNX : Hid (∀ wx, LStep w gl G (fun _ => False) l2 (d1.tick j) (4000 * i + 4000) wx → RndI w gl G n (i + 1) wx) := fun wx h => by
            rw [← Hl2.out] at h
            refine ⟨_, _, _, _, false, hI2, ?_⟩
            rw [show 4000 * (i + 1) = 4000 * i + 4000 by omega]; exact h
          have hfv : ¬ fv < n - 3 := by have := Hfv.out; omega
          have hw3 : IntKind.i64.wrap (n - 3) = n - 3 := by rw [IntKind.wrap_i64]; omega
          have hwi : IntKind.i64.wrap ((i : Int) + 1) = (i : Int) + 1 := by rw [IntKind.wrap_i64]; omega
          clear hfl hsc hI2 hjB hjS hiL hiE hF hap hiv hwh hsz1 hlen hpl hsq hI hS
          clear Hl2 Hfv hop
          generalize appL (rdL n prev N fin fr) t = l0 at HAP HFH
          generalize rdL n (prev ++ (rdC fin N (frS t)).map (·.off)) (N + (rdC fin N (frS t)).length) (fin + (frS t).size) false = l1 at HFH HFM HTM
          generalize rdC fin N (frS t) = cs at HSC HJO
          generalize frS t = FF at HJO HIT HEN
          go_upto_region 22 with (first
            | (go_at_call 13; refine Calls.mono HAP.out ?_; clear HAP; rintro e w3 ⟨rfl, S3⟩)
            | (go_at_call 15; refine Calls.mono (HFH.out _ S3) ?_; clear HFH S3; rintro e w4 ⟨rfl, S4⟩)
            | (go_at_call 17; refine Calls.mono (HFM.out _ S4) ?_; clear HFM S4; rintro e w5 ⟨rfl, S5⟩)
            | (go_at_call 19; refine Calls.mono (HTM.out _ S5) ?_; clear HTM S5; rintro e w6 ⟨rfl, S6⟩)
            | (go_at_call 27; refine Calls.mono (HTL.out _ S6) ?_; clear HTL S6; rintro e w7 ⟨rfl, S7⟩)
            | (go_at_call 25; refine Calls.mono (HFE.out _ S7) ?_; clear HFE S7; rintro e w8 ⟨rfl, S8⟩)
            | (go_at_call 34; refine Calls.mono (HSC.out _ S8) ?_; clear HSC S8; rintro e w9 ⟨cv, he, own9, S9⟩; have OL := Ck.Own.olds own9; clear own9; obtain rfl := he))
          go_upto_region 24 with (first
            | (go_at_call 39; refine Calls.mono (HJO.out _ _ OL) ?_; clear HJO OL; rintro e w10 ⟨jv, je, he, hb10⟩; have S10 := S9.below hb10; clear S9 hb10; obtain rfl := he)
            | (go_at_call 40; refine Calls.mono (HIT.out _) ?_; clear HIT; rintro e w11 ⟨ig, icap, he, cI, hb11⟩; have S11 := S10.below hb11; clear S10 hb11; obtain rfl := he))
          go_wp2_with (go_at_call 23; refine Calls.mono (HEN.out _ S11) ?_; clear HEN S11; rintro e w12 ⟨rfl, S12⟩)
          go_roundw
          case rel => exact ⟨i + 1, by omega, by go_num, HNX.out _ S12⟩
          case measure => simp [intOf]; omega
        · have h1' : ¬ (s.size : Int) < 1 := by omega
          by_cases h2 : 400 < s.size
          · have h2' : (400 : Int) < (s.size : Int) := by omega
            go_upto_region 14 with fail
            clear hcs
            obtain ⟨t, Ht⟩ : ∃ t : ByteArray, Hid (({ data := #[120] } : ByteArray) = t) := ⟨_, rfl⟩
            have ht : okF t = true := by rw [← Ht.out]; decide
            have hts : t.size ≤ maxLen := by rw [← Ht.out]; decide
            rw [Ht.out]
            obtain ⟨d1, j, hfl, hsc, hop, hI2⟩ := rd_step (fr := fr) hn (by omega) hI ht
            obtain ⟨hjB, hjS, hiL, hiE⟩ := rd_join (n := n) (i := i) (by omega) hI.num hI.fin ht
            have hF := frS_size ht
            have hap : appL (rdL n prev N fin fr) t = Lg.app (rdL n prev N fin fr) (frS t) := by
              unfold appL okA
              rw [ht, rd_full hn hI.pl ht]; rfl
            have hiv : (appL (rdL n prev N fin fr) t).Inv := by rw [hap]; exact rd_inv hn hI.pl hF (by have := hI.num; omega) (by have := hI.fin; omega)
            have HAP : Hid (Calls Try.prog 13 #[.pointer (some ⟨gl, 0, none⟩), .string t] wr fun e w' => e = .returned (.tuple #[.int .u64 fin, .int .i64 0]) ∧ LStep w gl G (fun _ => False) (appL (rdL n prev N fin fr) t) d (4000 * i) w') := by
              have h1 := LStep.app hS t (by omega) (by show prev.length ≤ _; have := hI.pl; omega) (by show ([] : List Ck.O).length ≤ 800; simp) (by show ByteArray.empty.size ≤ _; decide) ⟨by show ((ByteArray.empty.size : Nat) : Int) ≤ fin; have := hI.fin; have h0 : ByteArray.empty.size = 0 := rfl; rw [h0]; omega, by show fin ≤ _; have := hI.fin; omega⟩ ⟨by show 0 ≤ N; exact hI.num.1, by show N ≤ _; have := hI.num; omega⟩
              have e1 : appA (rdL n prev N fin fr) t = fin := by unfold appA okA; rw [ht, rd_full hn hI.pl ht]; rfl
              have e2 : appE (rdL n prev N fin fr) t = 0 := by unfold appE; rw [ht, rd_full hn hI.pl ht]; rfl
              rw [e1, e2] at h1; exact h1
            have hwh := hI.well.hi
            have hsz1 : (appL (rdL n prev N fin fr) t).fin ≤ 18446744073709551615 := by rw [hap]; unfold Lg.app; rw [sealN_fin]; show fin + ((frS t).size : Int) ≤ _; have := hI.fin; omega
            have HFH : Hid (∀ wx, LStep w gl G (fun _ => False) (appL (rdL n prev N fin fr) t) d (4000 * i) wx → Calls Try.prog 15 #[.pointer (some ⟨gl, 0, none⟩)] wx fun e w' => e = .returned (.int .i64 0) ∧ LStep w gl G (fun _ => False) (rdL n (prev ++ (rdC fin N (frS t)).map (·.off)) (N + (rdC fin N (frS t)).length) (fin + (frS t).size) false) d1 (4000 * i + 4000) w') := fun wx h => by
              have h1 := LStep.flush h hiv hsz1 (by omega) (by omega)
              rw [hfl] at h1; exact h1
            have hlen := rdC_len fin N (frS t)
            have hpl := hI.pl
            have HFM : Hid (∀ wx, LStep w gl G (fun _ => False) (rdL n (prev ++ (rdC fin N (frS t)).map (·.off)) (N + (rdC fin N (frS t)).length) (fin + (frS t).size) false) d1 (4000 * i + 4000) wx → Calls Try.prog 17 #[.pointer (some ⟨gl, 0, none⟩), .int .u64 fin] wx fun e w' => e = .returned (.int .u32 N) ∧ LStep w gl G (fun _ => False) (rdL n (prev ++ (rdC fin N (frS t)).map (·.off)) (N + (rdC fin N (frS t)).length) (fin + (frS t).size) false) d1 (4000 * i + 4000) w') := fun wx h => by
              have h1 := LStep.from h fin (by show (prev ++ _).length ≤ _; rw [List.length_append, List.length_map]; omega) (by show ([] : List Ck.O).length ≤ _; simp)
              rw [rd_from n prev N fin (frS t) hF.1 hI.pv (by have := hI.num; omega)] at h1; exact h1
            have HTM : Hid (∀ wx, LStep w gl G (fun _ => False) (rdL n (prev ++ (rdC fin N (frS t)).map (·.off)) (N + (rdC fin N (frS t)).length) (fin + (frS t).size) false) d1 (4000 * i + 4000) wx → Calls Try.prog 19 #[.pointer (some ⟨gl, 0, none⟩), .int .u64 fin] wx fun e w' => e = .returned (.tuple #[]) ∧ LStep w gl G (fun _ => False) (rdL n ((rdC fin N (frS t)).map (·.off)) (N + (rdC fin N (frS t)).length) (fin + (frS t).size) false) d1 (4000 * i + 4000) w') := fun wx h => by
              have h1 := LStep.trim h fin (by show (prev ++ _).length ≤ _; rw [List.length_append, List.length_map]; omega)
              rw [rd_trim n prev N fin (frS t) hF.1 hI.pv] at h1; exact h1
            obtain ⟨l2, Hl2⟩ : ∃ l2, Hid (rdL n ((rdC fin N (frS t)).map (·.off)) (N + (rdC fin N (frS t)).length) (fin + (frS t).size) false = l2) := ⟨_, rfl⟩
            rw [Hl2.out] at HTM
            have HTL : Hid (∀ wx, LStep w gl G (fun _ => False) l2 d1 (4000 * i + 4000) wx → Calls Try.prog 27 #[.pointer (some ⟨gl, 0, none⟩)] wx fun e w' => e = .returned (.int .u32 N) ∧ LStep w gl G (fun _ => False) l2 d1 (4000 * i + 4000) w') := fun wx h => by
              rw [← Hl2.out] at h ⊢
              have h1 := LStep.tail h (by show ((rdC fin N (frS t)).map (·.off)).length ≤ _; rw [List.length_map]; omega) (by show ([] : List Ck.O).length ≤ _; simp)
              have e1 : IntKind.u32.wrap ((rdL n ((rdC fin N (frS t)).map (·.off)) (N + (rdC fin N (frS t)).length) (fin + (frS t).size) false).next - (((rdL n ((rdC fin N (frS t)).map (·.off)) (N + (rdC fin N (frS t)).length) (fin + (frS t).size) false).last.length : Int) + (rdL n ((rdC fin N (frS t)).map (·.off)) (N + (rdC fin N (frS t)).length) (fin + (frS t).size) false).sealed.length)) = N := by
                show IntKind.u32.wrap (N + ((rdC fin N (frS t)).length : Int) - ((((rdC fin N (frS t)).map (·.off)).length : Int) + (([] : List Ck.O).length : Int))) = N
                rw [List.length_map]
                have := hI.num
                simp only [IntKind.wrap_u32, List.length_nil]; omega
              rw [e1] at h1; exact h1
            obtain ⟨fv, Hfv⟩ : ∃ fv : Int, Hid (n - ((rdC fin N (frS t)).length : Int) = fv) := ⟨_, rfl⟩
            have HFE : Hid (∀ wx, LStep w gl G (fun _ => False) l2 d1 (4000 * i + 4000) wx → Calls Try.prog 25 #[.pointer (some ⟨gl, 0, none⟩)] wx fun e w' => e = .returned (.int .i64 fv) ∧ LStep w gl G (fun _ => False) l2 d1 (4000 * i + 4000) w') := fun wx h => by
              rw [← Hl2.out] at h ⊢
              have hv2 : (rdL n ((rdC fin N (frS t)).map (·.off)) (N + (rdC fin N (frS t)).length) (fin + (frS t).size) false).Inv := by
                have := hI.num
                have := hI.fin
                refine ⟨one_in, by show 1 ≤ n ∧ n ≤ 700; omega, one_in, by show 0 ≤ N + _ ∧ N + _ ≤ _; omega, by show ByteArray.empty.size < 214; decide, by show ((ByteArray.empty.size : Nat) : Int) ≤ fin + _; have h0 : ByteArray.empty.size = 0 := rfl; rw [h0]; omega, (fun c hc => by cases hc), ?_⟩
                show (((rdC fin N (frS t)).map (·.off)).length : Int) + (([] : List Ck.O).length : Int) + wantN ((ByteArray.empty.size : Nat) : Int) ≤ n
                have h0 : ByteArray.empty.size = 0 := rfl
                rw [List.length_map, h0]
                simp only [List.length_nil]; unfold wantN; omega
              have h1 := LStep.free h hv2
              have e1 : (rdL n ((rdC fin N (frS t)).map (·.off)) (N + (rdC fin N (frS t)).length) (fin + (frS t).size) false).size - (((rdL n ((rdC fin N (frS t)).map (·.off)) (N + (rdC fin N (frS t)).length) (fin + (frS t).size) false).last.length : Int) + (rdL n ((rdC fin N (frS t)).map (·.off)) (N + (rdC fin N (frS t)).length) (fin + (frS t).size) false).sealed.length) - wantN (rdL n ((rdC fin N (frS t)).map (·.off)) (N + (rdC fin N (frS t)).length) (fin + (frS t).size) false).open_.size = fv := by
                show n - ((((rdC fin N (frS t)).map (·.off)).length : Int) + (([] : List Ck.O).length : Int)) - wantN ((ByteArray.empty.size : Nat) : Int) = fv
                have h0 : ByteArray.empty.size = 0 := rfl
                rw [List.length_map, h0, ← Hfv.out]
                simp only [List.length_nil]; unfold wantN; omega
              rw [e1] at h1; exact h1
            have HSC : Hid (∀ wx, LStep w gl G (fun _ => False) l2 d1 (4000 * i + 4000) wx → Calls Try.prog 34 #[.pointer (some ⟨G, 0, none⟩), .int .i64 1, .int .i64 n, .int .u32 N] wx fun e w' => SStep w wx gl G (fun _ => False) l2 (4000 * i + 4000) (rdC fin N (frS t), 0, d1.tick j) e w') := fun wx h => by
              have h1 := LStep.scan h 1 n N (by omega) (by have := hI.num; omega) (by omega)
              rw [hsc] at h1; exact h1
            have hsq := rd_seq N fin (frS t) hF (by have := hI.num; omega) (by have := hI.fin; omega)
            have HJO : Hid (∀ wx v, Ck.Olds wx v (rdC fin N (frS t)) → Calls Try.prog 39 #[.int .u32 N, v] wx fun e w' => ∃ v' ep, e = .returned (.tuple #[.int .u64 fin, .string (frS t), v', .int .u32 ep]) ∧ Below wx.heap.size wx w') := fun wx v h => by
              have h1 := join_any N v _ wx h (by omega) (by have := hI.num; omega) (fun c hc => (hsq.ok c hc).fits) (by have := tot_seq hsq; omega)
              refine h1.mono ?_
              rintro e w' ⟨v', rfl, _, hb⟩
              rw [hjB, hjS]
              exact ⟨v', _, rfl, hb⟩
            have HIT : Hid (∀ wx, Calls Try.prog 40 #[.int .u64 fin, .string (frS t), .int .u64 fin] wx fun e w' => ∃ g cap, e = .returned (.tuple #[.slice (some ⟨g, 0, none⟩) 1 cap, .int .u64 (fin + (frS t).size)]) ∧ w'.cell? ⟨g, 1, none⟩ = some (.string t) ∧ Below wx.heap.size wx w') := fun wx => by
              have h1 := items_any fin (frS t) fin wx (by have := hI.fin; omega) (by omega) (by have := hI.fin; omega)
              refine h1.mono ?_
              rintro e w' ⟨v', rfl, own, hb⟩
              rw [hiL] at own
              rw [hiE]
              obtain ⟨g, cap, rfl, hc⟩ := own_oneI own
              exact ⟨g, cap, rfl, hc, hb⟩
            have HEN : Hid (∀ wx, LStep w gl G (fun _ => False) l2 (d1.tick j) (4000 * i + 4000) wx → Calls Try.prog 23 #[.pointer (some ⟨gl, 0, none⟩)] wx fun e w' => e = .returned (.int .u64 (fin + (frS t).size)) ∧ LStep w gl G (fun _ => False) l2 (d1.tick j) (4000 * i + 4000) w') := fun wx h => by
              have h1 := LStep.fin h
              have e1 : l2.fin = fin + (frS t).size := by rw [← Hl2.out]; rfl
              rw [e1] at h1; exact h1
            have HNX : Hid (∀ wx, LStep w gl G (fun _ => False) l2 (d1.tick j) (4000 * i + 4000) wx → RndI w gl G n (i + 1) wx) := fun wx h => by
              rw [← Hl2.out] at h
              refine ⟨_, _, _, _, false, hI2, ?_⟩
              rw [show 4000 * (i + 1) = 4000 * i + 4000 by omega]; exact h
            have hfv : ¬ fv < n - 3 := by have := Hfv.out; omega
            have hw3 : IntKind.i64.wrap (n - 3) = n - 3 := by rw [IntKind.wrap_i64]; omega
            have hwi : IntKind.i64.wrap ((i : Int) + 1) = (i : Int) + 1 := by rw [IntKind.wrap_i64]; omega
            clear hfl hsc hI2 hjB hjS hiL hiE hF hap hiv hwh hsz1 hlen hpl hsq hI hS
            clear Hl2 Hfv hop
            generalize appL (rdL n prev N fin fr) t = l0 at HAP HFH
            generalize rdL n (prev ++ (rdC fin N (frS t)).map (·.off)) (N + (rdC fin N (frS t)).length) (fin + (frS t).size) false = l1 at HFH HFM HTM
            generalize rdC fin N (frS t) = cs at HSC HJO
            generalize frS t = FF at HJO HIT HEN
            go_upto_region 22 with (first
              | (go_at_call 13; refine Calls.mono HAP.out ?_; clear HAP; rintro e w3 ⟨rfl, S3⟩)
              | (go_at_call 15; refine Calls.mono (HFH.out _ S3) ?_; clear HFH S3; rintro e w4 ⟨rfl, S4⟩)
              | (go_at_call 17; refine Calls.mono (HFM.out _ S4) ?_; clear HFM S4; rintro e w5 ⟨rfl, S5⟩)
              | (go_at_call 19; refine Calls.mono (HTM.out _ S5) ?_; clear HTM S5; rintro e w6 ⟨rfl, S6⟩)
              | (go_at_call 27; refine Calls.mono (HTL.out _ S6) ?_; clear HTL S6; rintro e w7 ⟨rfl, S7⟩)
              | (go_at_call 25; refine Calls.mono (HFE.out _ S7) ?_; clear HFE S7; rintro e w8 ⟨rfl, S8⟩)
              | (go_at_call 34; refine Calls.mono (HSC.out _ S8) ?_; clear HSC S8; rintro e w9 ⟨cv, he, own9, S9⟩; have OL := Ck.Own.olds own9; clear own9; obtain rfl := he))
            go_upto_region 24 with (first
              | (go_at_call 39; refine Calls.mono (HJO.out _ _ OL) ?_; clear HJO OL; rintro e w10 ⟨jv, je, he, hb10⟩; have S10 := S9.below hb10; clear S9 hb10; obtain rfl := he)
              | (go_at_call 40; refine Calls.mono (HIT.out _) ?_; clear HIT; rintro e w11 ⟨ig, icap, he, cI, hb11⟩; have S11 := S10.below hb11; clear S10 hb11; obtain rfl := he))
            go_wp2_with (go_at_call 23; refine Calls.mono (HEN.out _ S11) ?_; clear HEN S11; rintro e w12 ⟨rfl, S12⟩)
            go_roundw
            case rel => exact ⟨i + 1, by omega, by go_num, HNX.out _ S12⟩
            case measure => simp [intOf]; omega
          · have h2' : ¬ (400 : Int) < (s.size : Int) := by omega
            go_upto_region 14 with fail
            clear hcs
            obtain ⟨t, Ht⟩ : ∃ t : ByteArray, Hid (s = t) := ⟨_, rfl⟩
            have ht : okF t = true := by rw [← Ht.out]; unfold okF; exact decide_eq_true (by omega)
            have hts : t.size ≤ maxLen := by rw [← Ht.out]; exact hss
            rw [Ht.out]
            obtain ⟨d1, j, hfl, hsc, hop, hI2⟩ := rd_step (fr := fr) hn (by omega) hI ht
            obtain ⟨hjB, hjS, hiL, hiE⟩ := rd_join (n := n) (i := i) (by omega) hI.num hI.fin ht
            have hF := frS_size ht
            have hap : appL (rdL n prev N fin fr) t = Lg.app (rdL n prev N fin fr) (frS t) := by
              unfold appL okA
              rw [ht, rd_full hn hI.pl ht]; rfl
            have hiv : (appL (rdL n prev N fin fr) t).Inv := by rw [hap]; exact rd_inv hn hI.pl hF (by have := hI.num; omega) (by have := hI.fin; omega)
            have HAP : Hid (Calls Try.prog 13 #[.pointer (some ⟨gl, 0, none⟩), .string t] wr fun e w' => e = .returned (.tuple #[.int .u64 fin, .int .i64 0]) ∧ LStep w gl G (fun _ => False) (appL (rdL n prev N fin fr) t) d (4000 * i) w') := by
              have h1 := LStep.app hS t (by omega) (by show prev.length ≤ _; have := hI.pl; omega) (by show ([] : List Ck.O).length ≤ 800; simp) (by show ByteArray.empty.size ≤ _; decide) ⟨by show ((ByteArray.empty.size : Nat) : Int) ≤ fin; have := hI.fin; have h0 : ByteArray.empty.size = 0 := rfl; rw [h0]; omega, by show fin ≤ _; have := hI.fin; omega⟩ ⟨by show 0 ≤ N; exact hI.num.1, by show N ≤ _; have := hI.num; omega⟩
              have e1 : appA (rdL n prev N fin fr) t = fin := by unfold appA okA; rw [ht, rd_full hn hI.pl ht]; rfl
              have e2 : appE (rdL n prev N fin fr) t = 0 := by unfold appE; rw [ht, rd_full hn hI.pl ht]; rfl
              rw [e1, e2] at h1; exact h1
            have hwh := hI.well.hi
            have hsz1 : (appL (rdL n prev N fin fr) t).fin ≤ 18446744073709551615 := by rw [hap]; unfold Lg.app; rw [sealN_fin]; show fin + ((frS t).size : Int) ≤ _; have := hI.fin; omega
            have HFH : Hid (∀ wx, LStep w gl G (fun _ => False) (appL (rdL n prev N fin fr) t) d (4000 * i) wx → Calls Try.prog 15 #[.pointer (some ⟨gl, 0, none⟩)] wx fun e w' => e = .returned (.int .i64 0) ∧ LStep w gl G (fun _ => False) (rdL n (prev ++ (rdC fin N (frS t)).map (·.off)) (N + (rdC fin N (frS t)).length) (fin + (frS t).size) false) d1 (4000 * i + 4000) w') := fun wx h => by
              have h1 := LStep.flush h hiv hsz1 (by omega) (by omega)
              rw [hfl] at h1; exact h1
            have hlen := rdC_len fin N (frS t)
            have hpl := hI.pl
            have HFM : Hid (∀ wx, LStep w gl G (fun _ => False) (rdL n (prev ++ (rdC fin N (frS t)).map (·.off)) (N + (rdC fin N (frS t)).length) (fin + (frS t).size) false) d1 (4000 * i + 4000) wx → Calls Try.prog 17 #[.pointer (some ⟨gl, 0, none⟩), .int .u64 fin] wx fun e w' => e = .returned (.int .u32 N) ∧ LStep w gl G (fun _ => False) (rdL n (prev ++ (rdC fin N (frS t)).map (·.off)) (N + (rdC fin N (frS t)).length) (fin + (frS t).size) false) d1 (4000 * i + 4000) w') := fun wx h => by
              have h1 := LStep.from h fin (by show (prev ++ _).length ≤ _; rw [List.length_append, List.length_map]; omega) (by show ([] : List Ck.O).length ≤ _; simp)
              rw [rd_from n prev N fin (frS t) hF.1 hI.pv (by have := hI.num; omega)] at h1; exact h1
            have HTM : Hid (∀ wx, LStep w gl G (fun _ => False) (rdL n (prev ++ (rdC fin N (frS t)).map (·.off)) (N + (rdC fin N (frS t)).length) (fin + (frS t).size) false) d1 (4000 * i + 4000) wx → Calls Try.prog 19 #[.pointer (some ⟨gl, 0, none⟩), .int .u64 fin] wx fun e w' => e = .returned (.tuple #[]) ∧ LStep w gl G (fun _ => False) (rdL n ((rdC fin N (frS t)).map (·.off)) (N + (rdC fin N (frS t)).length) (fin + (frS t).size) false) d1 (4000 * i + 4000) w') := fun wx h => by
              have h1 := LStep.trim h fin (by show (prev ++ _).length ≤ _; rw [List.length_append, List.length_map]; omega)
              rw [rd_trim n prev N fin (frS t) hF.1 hI.pv] at h1; exact h1
            obtain ⟨l2, Hl2⟩ : ∃ l2, Hid (rdL n ((rdC fin N (frS t)).map (·.off)) (N + (rdC fin N (frS t)).length) (fin + (frS t).size) false = l2) := ⟨_, rfl⟩
            rw [Hl2.out] at HTM
            have HTL : Hid (∀ wx, LStep w gl G (fun _ => False) l2 d1 (4000 * i + 4000) wx → Calls Try.prog 27 #[.pointer (some ⟨gl, 0, none⟩)] wx fun e w' => e = .returned (.int .u32 N) ∧ LStep w gl G (fun _ => False) l2 d1 (4000 * i + 4000) w') := fun wx h => by
              rw [← Hl2.out] at h ⊢
              have h1 := LStep.tail h (by show ((rdC fin N (frS t)).map (·.off)).length ≤ _; rw [List.length_map]; omega) (by show ([] : List Ck.O).length ≤ _; simp)
              have e1 : IntKind.u32.wrap ((rdL n ((rdC fin N (frS t)).map (·.off)) (N + (rdC fin N (frS t)).length) (fin + (frS t).size) false).next - (((rdL n ((rdC fin N (frS t)).map (·.off)) (N + (rdC fin N (frS t)).length) (fin + (frS t).size) false).last.length : Int) + (rdL n ((rdC fin N (frS t)).map (·.off)) (N + (rdC fin N (frS t)).length) (fin + (frS t).size) false).sealed.length)) = N := by
                show IntKind.u32.wrap (N + ((rdC fin N (frS t)).length : Int) - ((((rdC fin N (frS t)).map (·.off)).length : Int) + (([] : List Ck.O).length : Int))) = N
                rw [List.length_map]
                have := hI.num
                simp only [IntKind.wrap_u32, List.length_nil]; omega
              rw [e1] at h1; exact h1
            obtain ⟨fv, Hfv⟩ : ∃ fv : Int, Hid (n - ((rdC fin N (frS t)).length : Int) = fv) := ⟨_, rfl⟩
            have HFE : Hid (∀ wx, LStep w gl G (fun _ => False) l2 d1 (4000 * i + 4000) wx → Calls Try.prog 25 #[.pointer (some ⟨gl, 0, none⟩)] wx fun e w' => e = .returned (.int .i64 fv) ∧ LStep w gl G (fun _ => False) l2 d1 (4000 * i + 4000) w') := fun wx h => by
              rw [← Hl2.out] at h ⊢
              have hv2 : (rdL n ((rdC fin N (frS t)).map (·.off)) (N + (rdC fin N (frS t)).length) (fin + (frS t).size) false).Inv := by
                have := hI.num
                have := hI.fin
                refine ⟨one_in, by show 1 ≤ n ∧ n ≤ 700; omega, one_in, by show 0 ≤ N + _ ∧ N + _ ≤ _; omega, by show ByteArray.empty.size < 214; decide, by show ((ByteArray.empty.size : Nat) : Int) ≤ fin + _; have h0 : ByteArray.empty.size = 0 := rfl; rw [h0]; omega, (fun c hc => by cases hc), ?_⟩
                show (((rdC fin N (frS t)).map (·.off)).length : Int) + (([] : List Ck.O).length : Int) + wantN ((ByteArray.empty.size : Nat) : Int) ≤ n
                have h0 : ByteArray.empty.size = 0 := rfl
                rw [List.length_map, h0]
                simp only [List.length_nil]; unfold wantN; omega
              have h1 := LStep.free h hv2
              have e1 : (rdL n ((rdC fin N (frS t)).map (·.off)) (N + (rdC fin N (frS t)).length) (fin + (frS t).size) false).size - (((rdL n ((rdC fin N (frS t)).map (·.off)) (N + (rdC fin N (frS t)).length) (fin + (frS t).size) false).last.length : Int) + (rdL n ((rdC fin N (frS t)).map (·.off)) (N + (rdC fin N (frS t)).length) (fin + (frS t).size) false).sealed.length) - wantN (rdL n ((rdC fin N (frS t)).map (·.off)) (N + (rdC fin N (frS t)).length) (fin + (frS t).size) false).open_.size = fv := by
                show n - ((((rdC fin N (frS t)).map (·.off)).length : Int) + (([] : List Ck.O).length : Int)) - wantN ((ByteArray.empty.size : Nat) : Int) = fv
                have h0 : ByteArray.empty.size = 0 := rfl
                rw [List.length_map, h0, ← Hfv.out]
                simp only [List.length_nil]; unfold wantN; omega
              rw [e1] at h1; exact h1
            have HSC : Hid (∀ wx, LStep w gl G (fun _ => False) l2 d1 (4000 * i + 4000) wx → Calls Try.prog 34 #[.pointer (some ⟨G, 0, none⟩), .int .i64 1, .int .i64 n, .int .u32 N] wx fun e w' => SStep w wx gl G (fun _ => False) l2 (4000 * i + 4000) (rdC fin N (frS t), 0, d1.tick j) e w') := fun wx h => by
              have h1 := LStep.scan h 1 n N (by omega) (by have := hI.num; omega) (by omega)
              rw [hsc] at h1; exact h1
            have hsq := rd_seq N fin (frS t) hF (by have := hI.num; omega) (by have := hI.fin; omega)
            have HJO : Hid (∀ wx v, Ck.Olds wx v (rdC fin N (frS t)) → Calls Try.prog 39 #[.int .u32 N, v] wx fun e w' => ∃ v' ep, e = .returned (.tuple #[.int .u64 fin, .string (frS t), v', .int .u32 ep]) ∧ Below wx.heap.size wx w') := fun wx v h => by
              have h1 := join_any N v _ wx h (by omega) (by have := hI.num; omega) (fun c hc => (hsq.ok c hc).fits) (by have := tot_seq hsq; omega)
              refine h1.mono ?_
              rintro e w' ⟨v', rfl, _, hb⟩
              rw [hjB, hjS]
              exact ⟨v', _, rfl, hb⟩
            have HIT : Hid (∀ wx, Calls Try.prog 40 #[.int .u64 fin, .string (frS t), .int .u64 fin] wx fun e w' => ∃ g cap, e = .returned (.tuple #[.slice (some ⟨g, 0, none⟩) 1 cap, .int .u64 (fin + (frS t).size)]) ∧ w'.cell? ⟨g, 1, none⟩ = some (.string t) ∧ Below wx.heap.size wx w') := fun wx => by
              have h1 := items_any fin (frS t) fin wx (by have := hI.fin; omega) (by omega) (by have := hI.fin; omega)
              refine h1.mono ?_
              rintro e w' ⟨v', rfl, own, hb⟩
              rw [hiL] at own
              rw [hiE]
              obtain ⟨g, cap, rfl, hc⟩ := own_oneI own
              exact ⟨g, cap, rfl, hc, hb⟩
            have HEN : Hid (∀ wx, LStep w gl G (fun _ => False) l2 (d1.tick j) (4000 * i + 4000) wx → Calls Try.prog 23 #[.pointer (some ⟨gl, 0, none⟩)] wx fun e w' => e = .returned (.int .u64 (fin + (frS t).size)) ∧ LStep w gl G (fun _ => False) l2 (d1.tick j) (4000 * i + 4000) w') := fun wx h => by
              have h1 := LStep.fin h
              have e1 : l2.fin = fin + (frS t).size := by rw [← Hl2.out]; rfl
              rw [e1] at h1; exact h1
            have HNX : Hid (∀ wx, LStep w gl G (fun _ => False) l2 (d1.tick j) (4000 * i + 4000) wx → RndI w gl G n (i + 1) wx) := fun wx h => by
              rw [← Hl2.out] at h
              refine ⟨_, _, _, _, false, hI2, ?_⟩
              rw [show 4000 * (i + 1) = 4000 * i + 4000 by omega]; exact h
            have hfv : ¬ fv < n - 3 := by have := Hfv.out; omega
            have hw3 : IntKind.i64.wrap (n - 3) = n - 3 := by rw [IntKind.wrap_i64]; omega
            have hwi : IntKind.i64.wrap ((i : Int) + 1) = (i : Int) + 1 := by rw [IntKind.wrap_i64]; omega
            clear hfl hsc hI2 hjB hjS hiL hiE hF hap hiv hwh hsz1 hlen hpl hsq hI hS
            clear Hl2 Hfv hop
            generalize appL (rdL n prev N fin fr) t = l0 at HAP HFH
            generalize rdL n (prev ++ (rdC fin N (frS t)).map (·.off)) (N + (rdC fin N (frS t)).length) (fin + (frS t).size) false = l1 at HFH HFM HTM
            generalize rdC fin N (frS t) = cs at HSC HJO
            generalize frS t = FF at HJO HIT HEN
            go_upto_region 22 with (first
              | (go_at_call 13; refine Calls.mono HAP.out ?_; clear HAP; rintro e w3 ⟨rfl, S3⟩)
              | (go_at_call 15; refine Calls.mono (HFH.out _ S3) ?_; clear HFH S3; rintro e w4 ⟨rfl, S4⟩)
              | (go_at_call 17; refine Calls.mono (HFM.out _ S4) ?_; clear HFM S4; rintro e w5 ⟨rfl, S5⟩)
              | (go_at_call 19; refine Calls.mono (HTM.out _ S5) ?_; clear HTM S5; rintro e w6 ⟨rfl, S6⟩)
              | (go_at_call 27; refine Calls.mono (HTL.out _ S6) ?_; clear HTL S6; rintro e w7 ⟨rfl, S7⟩)
              | (go_at_call 25; refine Calls.mono (HFE.out _ S7) ?_; clear HFE S7; rintro e w8 ⟨rfl, S8⟩)
              | (go_at_call 34; refine Calls.mono (HSC.out _ S8) ?_; clear HSC S8; rintro e w9 ⟨cv, he, own9, S9⟩; have OL := Ck.Own.olds own9; clear own9; obtain rfl := he))
            go_upto_region 24 with (first
              | (go_at_call 39; refine Calls.mono (HJO.out _ _ OL) ?_; clear HJO OL; rintro e w10 ⟨jv, je, he, hb10⟩; have S10 := S9.below hb10; clear S9 hb10; obtain rfl := he)
              | (go_at_call 40; refine Calls.mono (HIT.out _) ?_; clear HIT; rintro e w11 ⟨ig, icap, he, cI, hb11⟩; have S11 := S10.below hb11; clear S10 hb11; obtain rfl := he))
            go_wp2_with (go_at_call 23; refine Calls.mono (HEN.out _ S11) ?_; clear HEN S11; rintro e w12 ⟨rfl, S12⟩)
            go_roundw
            case rel => exact ⟨i + 1, by omega, by go_num, HNX.out _ S12⟩
            case measure => simp [intOf]; omega
    · have hin' : ¬ (i : Int) < 3 * n := by omega
      clear hn3
      go_wp2_with (go_at_call 10; refine Calls.mono (HA.out _) ?_; clear HA; rintro ex wz ⟨rfl, hz⟩)
      go_ret
      exact ⟨rfl, hbw.trans (hz.mono hbw.size)⟩

set_option maxRecDepth 100000 in
theorem lifted (os : Os) (started : os.Started) (H : Type) (enc : TypeId × Value → H) :
    ReturnsInHanded {} Try.checked os 7 .any (Rows.logRoundSpec.pre6 enc Try.prog Try.f7 Rows.logRoundRow.domain false) (Rows.logRoundSpec.post enc Try.prog Try.f7 false true false false) := by
  refine returnsInHanded_of_change_sized (C := Try.checked) own started (by kernel_rfl) Try.func7
    (ChangeSpec.witness6 (enc := enc) (C := Try.checked) false ⟨#[], #[.slice none 0 0, .int .u8 0], []⟩ 8 (by kernel_rfl) (by kernel_rfl) (by kernel_rfl) (by kernel_rfl)) ?_
  intro W base args ds gs before hval0 hW hcnd hsz0 _
  have hval : ∀ (j : Nat) t v, Try.f7.params[j]? = some t → args[j]? = some v → Value.okWide Try.prog W .any base t v := hval0
  have hW' := hW
  obtain ⟨p, q, hA0, hV, rfl, hfz, hnd⟩ := hW
  have hA : DataW.TrodAll enc Try.prog W 0 (fun _ => true) true Try.f7.params.toList args.toList ds p := hA0
  have hsz : (DataW.weightsEach Try.prog (Try.f7.params.toList ++ []) (ds ++ gs)).all (· ≤ reachBytes) = true := hsz0
  rw [Try.params7] at hA hval hsz
  obtain ⟨v0, vs0, d0, ds0, p0, q0, hargs, rfl, rfl, h0, r0⟩ := trodAll_cons hA
  obtain ⟨v1, vs1, d1, ds1, p1, q1, rfl, rfl, rfl, h1, r1⟩ := trodAll_cons r0
  obtain ⟨rfl, rfl, rfl⟩ := trodAll_nil r1
  obtain rfl : args = #[v0, v1] := by cases args; simp_all
  obtain ⟨rfl, rfl⟩ := trodVars_none hV
  simp only [List.append_nil] at hsz
  have hlt : ∀ x ∈ (p0 ++ (p1 ++ [])), x.block < W.heap.size := fun x hx => hW'.lt x (by simpa using hx)
  have hw0 : (d0.weights Try.prog 73).all (· ≤ reachBytes) = true := List.all_eq_true.2 fun m hm => List.all_eq_true.1 hsz m (by simp [DataW.weightsEach, hm])
  have hw1 : (d1.weights Try.prog 5).all (· ≤ reachBytes) = true := List.all_eq_true.2 fun m hm => List.all_eq_true.1 hsz m (by simp [DataW.weightsEach, hm])
  have k0 := h0
  have k1 := h1
  obtain ⟨a0, w0⟩ := open_strsv (hval 0 73 v0 rfl rfl) h0
  obtain ⟨a1, rfl, rfl, rfl, w1⟩ := open_int Try.underlying5 (hval 1 5 v1 rfl rfl) h1
  clear hA0 hval0
  simp only [List.append_nil] at hW'
  refine (walk W v0 a0 a1 w0 w1).mono fun e W' ⟨he, hg⟩ => ?_
  subst he
  exact ⟨_, rfl, ⟨_, _, _, [], (p0 ++ ([] ++ [])), [], hW', (trodAll_cons_mk (shut_bool Try.underlying4 _) trodAll_mk0), (trodAll_cons_mk (Below.trod laidOut (by kernel_rfl) (of_decide_eq_true (by kernel_rfl)) k0 hg (fun x hx => hlt x (by simp [hx]))) (trodAll_cons_mk (Below.trod laidOut (by kernel_rfl) (of_decide_eq_true (by kernel_rfl)) k1 hg (fun x hx => (nomatch hx))) trodAll_mk0)), rfl,
    hg.frame _, fun h => by cases h⟩⟩

theorem over : Rows.logRoundRow.holds Try.pinned (OpenSpec.ofChange Rows.logRoundSpec) :=
  OpenClaim.holds_of_wide 7 Try.f7 rfl rfl rfl rfl rfl rfl rfl ⟨rfl, rfl, rfl, rfl, rfl⟩ rfl rfl rfl rfl rfl (by kernel_rfl) Try.func7 (by kernel_rfl)
    (of_decide_eq_true (by kernel_rfl)) (by unfold Func.isWrapper; first | (rw [if_pos (by decide +kernel)]; kernel_rfl) | (rw [if_neg (by decide +kernel)]; exact ⟨rfl, rfl⟩))
    (fun os started H enc _ => lifted os started H enc)

/-- The statement. -/
theorem proved : Rows.LogRoundSaid :=
  over
#print axioms proved
end Go.Proofs.Ytgnedbagelhcbaa.logRound
