/-
  LogScans: what is in any blocks from any number on is told as the document says, or why not. No conditions.
-/
import Derived.Test.YtgnedbagelhcbaaLsc
namespace Go.Proofs.Ytgnedbagelhcbaa.logScans
open Go.ChangeShapes Go.WideShapes Go.ChangeAt Go.RowKit
open Go.Deep
set_option linter.unusedVariables false
set_option linter.unusedSimpArgs false

theorem own : ownKnob Try.prog.godebug = none := by kernel_rfl

set_option maxRecDepth 20000

theorem load_blk {ops : Array Oper} {rest : List Oper} {op : Oper} {a : Act} {w : World} {Q : Exit → Act → World → Prop} (hgd : Region.wanted op (yielded ops a.tmps) = true) (x : Operand) (ho : op.op = .load 56 x)
    (p : Addr) (hx : a.eval x = .pointer (some p)) (V : List Int) (hl : V.length = 256) (hc : ∀ j v, (V.map (Value.int .u8))[j]? = some v → w.cell? (p.add j) = some v)
    (h : wpList Try.prog ops Q rest (a.put op.dst (.agg (bs V))) w) : wpList Try.prog ops Q (op :: rest) a w :=
  load_any_g hgd 56 x ho p hx (V.map (Value.int .u8)) _ hc Try.underlying56 rfl (by rw [List.length_map, hl]; exact size56) h
/-- The disk while blocks are written. -/
def SIn (w : World) (G : Nat) (wr : World) (k : Nat) : Prop := ∃ dk L, DAt wr G dk L (4 * min k 12) ∧ Well dk 12 (min k 12 : Nat) ∧ Below w.heap.size w wr ∧ ∀ j, foot G L j → w.heap.size ≤ j
/-- Where the statement's own scan has come to. -/
def SLp (w3 wr : World) (wv : Value) (Z k : Nat) (acc : List Ck.O) (a z fst : Int) (dP : Dsk) (R : List Ck.O × Int × Dsk) : Prop := acc.length = k ∧ Ck.Own wr w3.heap.size wv acc ∧ Below w3.heap.size w3 wr ∧ scanF a z fst (Z - k) k (dP.tick k) acc = R
set_option maxHeartbeats 16000000 in
theorem walk (w : World) (v : Value) (n : Nat) (B : Nat → List Int) (a z fst fl : Int) (hB0 : Blks w v n B ∧ (∀ i, (B i).length = 256 ∧ Bytes (B i)) ∧ n ≤ 140737488355328) (wa : (Lit.int .i64 a).wf = true) (wz : (Lit.int .i64 z).wf = true) (wf : (Lit.int .u32 fst).wf = true) (wl : (Lit.int .u8 fl).wf = true) :
    Calls Try.prog 4 #[v, .int .i64 a, .int .i64 z, .int .u32 fst, .int .u8 fl] w fun e w' => e = .returned (.bool true) ∧ Below w.heap.size w w' := by
  obtain ⟨hB, hBf, hn⟩ := hB0
  have ba := bounds_i64 wa
  have bz := bounds_i64 wz
  have bf := bounds_u32 wf
  have bl := bounds_u8 wl
  clear wa wz wf wl
  have HA : Hid _ := awake_any
  have HND : Hid _ := new_some 12 (by decide) (by decide) w
  have hz56 := zero56
  have hz65 := zero65
  obtain ⟨oa, cap, rfl, hcell⟩ := hB.form
  have HC : Hid (∀ i, i < n → ∃ pa, oa = some pa ∧ ∀ wr, Below w.heap.size w wr → ∀ j u, ((B i).map (Value.int .u8))[j]? = some u → wr.cell? ((pa.add (i * 256)).add j) = some u) := fun i hi => by
    obtain ⟨pa, e, h⟩ := hcell i hi
    exact ⟨pa, e, fun wr hb j u hj => Ck.cell_keep (h j u hj) hb⟩
  clear hcell hB
  go_enter Try.func4, Try.ntmps4
  go_upto_region 4 with (go_at_call 9; refine Calls.mono HND.out ?_; clear HND; rintro e w1 ⟨rfl, D1, B1⟩)
  have HI0 : Hid (SIn w (w.heap.size + 2) w1 0) := ⟨_, _, D1, new_well 12, B1, fun j q => foot_new q⟩
  have hGw : w.heap.size ≤ w.heap.size + 2 := by omega
  clear D1 B1
  generalize w.heap.size + 2 = G at HI0 hGw ⊢
  go_wp2
  go_loopw [27] (fun i wr => ∃ (k : Nat), k ≤ n ∧ i = .int .i64 k ∧ SIn w G wr k) (fun i _ => n - (intOf i).toNat)
  case atStart => exact ⟨0, by omega, rfl, HI0.out⟩
  case round =>
    clear HI0
    obtain ⟨k, hk, rfl, dk, L, hD, hW, hb, hF⟩ := hrel
    by_cases hkn : k < n
    · have hkn' : (k : Int) < (n : Int) := by omega
      have hk0 : (0 : Int) ≤ (k : Int) := by omega
      obtain ⟨pa, rfl, hcc⟩ := HC.out k hkn
      have hcc := hcc wr hb
      have hVl := (hBf k).1
      have hVy := (hBf k).2
      generalize B k = V at hcc hVl hVy
      have hVs : (bs V).size = 256 := by rw [bs_size]; exact hVl
      have q13 : Row (wr.alloc (.cells (bs (zs 256)) 56)) wr.heap.size (bs (zs 256)) 56 := Row.new _ _ _
      have tl : Hid (1 = 1) := rfl
      go_upto_region 7 with (first
        | (have hh := tl; clear hh tl; refine load_blk rfl (.tmp 30) rfl (pa.add (k * 256)) rfl V hVl hcc ?_)
        | (refine store_row rfl 56 (.tmp 13) (.tmp 31) rfl wr.heap.size V rfl rfl 56 _ q13 256 size56 (by rw [bs_size, zs_length]) hVl ?_))
      have s13 := q13.set (bs V)
      have sb := below_setRow ((Below.refl wr.heap.size wr).alloc (Nat.le_refl _) (.cells (bs (zs 256)) 56)) (Nat.le_refl _) (bs V)
      clear q13 hcc
      generalize (wr.alloc (.cells (bs (zs 256)) 56)).setRow wr.heap.size (bs V) = w7 at s13 sb ⊢
      have hD7 := hD.below sb
      have hb7 := hb.trans (sb.mono hb.size)
      by_cases hk12 : k < 12
      · have hk12' : (k : Int) < 12 := by omega
        have hops := hW.hi
        have hlo := hW.lo
        have HWR : Hid (Calls Try.prog 33 #[.pointer (some ⟨G, 0, none⟩), .int .i64 k, .agg (bs V)] w7 fun e w' => e = .returned (.int .i64 0) ∧ SIn w G w' (k + 1)) := by
          have e1 := writ_well hW (k : Int) (by omega) V
          have := write_any hD7 (by omega) (k : Int) V hVl hVy (by omega)
          rw [e1] at this
          refine this.mono ?_
          rintro e w' ⟨rfl, L', q1, q2, q3⟩
          have m1 : min (k + 1) 12 = min k 12 + 1 := by omega
          rw [show 4 * min k 12 + 4 = 4 * min (k + 1) 12 by omega] at q1
          refine ⟨rfl, _, L', q1, ?_, hb7.trans (q2.below hb7.size (fun j q => hF j q)), fun j q => ?_⟩
          · rw [m1]; exact (hW.tick.wrote _ _).mono (by omega)
          · rcases q3 j q with q4 | q4
            · exact hF j q4
            · have := hb7.size; omega
        clear hD hD7 hW hops hlo
        go_wp2_with (first
          | (refine load_row_g rfl 56 (.tmp 13) rfl wr.heap.size rfl 56 (bs V) s13 256 5 Try.underlying56 size56 hVs ?_)
          | (go_at_call 33; refine Calls.mono HWR.out ?_; clear HWR; rintro e w8 ⟨rfl, h8⟩))
        go_roundw
        case rel => exact ⟨k + 1, by omega, by go_num, h8⟩
        case measure => simp [intOf]; omega
      · have hk12' : ¬ (k : Int) < 12 := by omega
        have m1 : min (k + 1) 12 = min k 12 := by omega
        have h8 : SIn w G w7 (k + 1) := ⟨dk, L, by rw [m1]; exact hD7, by rw [m1]; exact hW, hb7, hF⟩
        clear hD hD7 hW
        go_wp2
        go_roundw
        case rel => exact ⟨k + 1, by omega, by go_num, h8⟩
        case measure => simp [intOf]; omega
    · obtain rfl : n = k := by omega
      have hkk' : ¬ (n : Int) < (n : Int) := by omega
      have hN : 4 * min n 12 ≤ 48 := by omega
      generalize 4 * min n 12 = N at hD hN
      have hPl : Pl (dk.plan [fl] 0) 12 fl := hW.pl fl
      have x0 : Row (wr.alloc (.cells #[.int .i64 fl] 3)) wr.heap.size #[.int .i64 fl] 3 := Row.new _ _ _
      have hfw : IntKind.i64.wrap fl = fl := by rw [IntKind.wrap_i64]; omega
      have hGl := hD.glt
      have HPN : Hid _ := plan_any (hD.alloc (.cells #[.int .i64 fl] 3)) (.slice (some ⟨wr.heap.size, 0, none⟩) 1 1) [fl] (Or.inr ⟨⟨wr.heap.size, 0, none⟩, 1, rfl, fun j u hj => by
        rw [Addr.add_mid, Nat.zero_add, cell_of_row _ _ j _ _ _ x0, ← hj]; rw [List.getElem?_toArray]; rfl⟩) (fun a n c q => by cases q; show wr.heap.size ≠ G; omega) (fun y hy => by obtain rfl := List.mem_singleton.1 hy; exact wf_of (by omega) (by omega)) (by simp) 0 (wf_of (by decide) (by decide))
      have hbA : Below w.heap.size w (wr.alloc (.cells #[.int .i64 fl] 3)) := hb.alloc hb.size _
      clear hD hW hBf HC
      have HOP : (dk.plan [fl] 0).ops = 0 := rfl
      have HTK : (dk.plan [fl] 0).tick 0 = dk.plan [fl] 0 := rfl
      generalize dk.plan [fl] 0 = dP at hPl HPN HOP HTK
      go_upto_region 11 with (go_at_call 21; refine Calls.mono HPN.out ?_; clear HPN; rintro e w2 ⟨rfl, m, hm, D2, O2⟩)
      have hb2 : Below w.heap.size w w2 := hbA.trans (O2.below hbA.size (fun j q => by subst q; exact hGw))
      have hF2 : ∀ j, foot G (L.plan m) j → w.heap.size ≤ j := fun j q => by
        rcases q with q | q | q | q | q
        · exact hF j (Or.inl q)
        · exact hF j (Or.inr (Or.inl q))
        · exact hF j (Or.inr (Or.inr (Or.inl q)))
        · exact hF j (Or.inr (Or.inr (Or.inr (Or.inl q))))
        · have q' : m = j := by have : (Value.map (some m)) = .map (some j) := q; cases this; rfl
          have := hbA.size; omega
      have HSC : Hid _ := scan_any w2 G dP (L.plan m) N a z fst D2 (by omega) (by omega) (by
        omega)
      clear hbA hb x0 D2 O2
      generalize L.plan m = L2 at HSC hF2
      cases hk : okR a z 12 with
      | false =>
        have e1 : scanR a z fst dP = ([], 1, dP) := by unfold scanR; rw [hPl.size]; rw [show okR a z ((12 : Nat) : Int) = false from hk]; rfl
        rw [e1] at HSC
        go_upto_region 12 with (go_at_call 34; refine Calls.mono HSC.out ?_; clear HSC; rintro e w3 ⟨lv, he, ownL, D3, O3⟩; obtain ⟨ob, cb, hlv⟩ := ownL.form; subst hlv; obtain rfl := he)
        have hb3 : Below w.heap.size w w3 := hb2.trans (O3.below hb2.size hF2)
        clear ownL D3 O3
        rcases okR_cases a z 12 hk with h1 | ⟨h1, h2⟩ | ⟨h1, h2, h3⟩ | ⟨h1, h2, h3, h4⟩
        · clear hk
          go_wp2_with (go_at_call 10; refine Calls.mono (HA.out _) ?_; clear HA; rintro ex wz ⟨rfl, hz⟩)
          go_ret
          exact ⟨rfl, hb3.trans (hz.mono hb3.size)⟩
        · have h1' : ¬ a < 0 := by omega
          clear hk h1
          go_wp2_with (go_at_call 10; refine Calls.mono (HA.out _) ?_; clear HA; rintro ex wz ⟨rfl, hz⟩)
          go_ret
          exact ⟨rfl, hb3.trans (hz.mono hb3.size)⟩
        · have h1' : ¬ a < 0 := by omega
          have h2' : ¬ z < 1 := by omega
          have h3' : (12 : Int) < z := by omega
          clear hk h1 h2 h3
          go_wp2_with (go_at_call 10; refine Calls.mono (HA.out _) ?_; clear HA; rintro ex wz ⟨rfl, hz⟩)
          go_ret
          exact ⟨rfl, hb3.trans (hz.mono hb3.size)⟩
        · have h1' : ¬ a < 0 := by omega
          have h2' : ¬ z < 1 := by omega
          have h3' : ¬ (12 : Int) < z := by omega
          have h4' : 12 - z < a := by omega
          have hwz : IntKind.i64.wrap (12 - z) = 12 - z := by rw [IntKind.wrap_i64]; omega
          clear hk h1 h2 h3 h4
          go_wp2_with (go_at_call 10; refine Calls.mono (HA.out _) ?_; clear HA; rintro ex wz ⟨rfl, hz⟩)
          go_ret
          exact ⟨rfl, hb3.trans (hz.mono hb3.size)⟩
      | true =>
        have hkk : 0 ≤ a ∧ 1 ≤ z ∧ a ≤ 12 - z := by have h := hk; unfold okR at h; simp only [Bool.and_eq_true, decide_eq_true_eq] at h; exact h
        have h1' : ¬ a < 0 := by omega
        have h2' : ¬ z < 1 := by omega
        have h3' : ¬ (12 : Int) < z := by omega
        have h4' : ¬ 12 - z < a := by omega
        have hwz : IntKind.i64.wrap (12 - z) = 12 - z := by rw [IntKind.wrap_i64]; omega
        obtain ⟨Z, HZ⟩ : ∃ Z : Nat, Hid (z.toNat = Z) := ⟨_, rfl⟩
        have HZz : Hid ((Z : Int) = z) := by have := HZ.out; show (Z : Int) = z; omega
        have HSQ : Hid (scanF a z fst Z 0 (dP.tick 0) [] = scanR a z fst dP) := by
          show _ = _
          unfold scanR
          rw [hPl.size, show okR a z ((12 : Nat) : Int) = true from hk, HZ.out]
          rw [HTK]; rfl
        obtain ⟨jj, cs, E, hjr, hj0, hj1⟩ := scanF_pl (fst := fst) hPl hk Z 0 0 [] (by omega)
        rw [HSQ.out] at hjr
        rw [hjr] at HSC HSQ
        clear hjr
        go_upto_region 12 with (go_at_call 34; refine Calls.mono HSC.out ?_; clear HSC; rintro e w3 ⟨lv, he, ownL, D3, O3⟩; obtain ⟨ob, cb, hlv⟩ := ownL.form; subst hlv; obtain rfl := he)
        have hb3 : Below w.heap.size w w3 := hb2.trans (O3.below hb2.size hF2)
        have HOL : Hid (Ck.Own w3 w2.heap.size (.slice ob cs.length cb) cs) := ownL
        have HSN : Hid (∀ wx b, Below w3.heap.size w3 wx → 0 ≤ b → b < 12 → Calls Try.prog 29 #[.pointer (some ⟨G, 0, none⟩), .int .i64 b] wx fun e w' => e = .returned (.agg (bs (dP.seen b))) ∧ Below wx.heap.size wx w') := fun wx b hb h0 h1 => seen_in (D3.below hb) b ⟨h0, by show b < (dP.n : Int); rw [hPl.size]; exact h1⟩
        have HSF : Hid (∀ b, 0 ≤ b → b < 12 → (dP.seen b).length = 256 ∧ Bytes (dP.seen b)) := fun b h0 h1 => Dsk.seen_length D3 b ⟨h0, by show b < (dP.n : Int); rw [hPl.size]; exact h1⟩
        have HRD : Hid (∀ r k acc, scanF a z fst (r + 1) ((k : Nat) : Int) (dP.tick k) acc = (cs, E, dP.tick jj) → _) := fun r k acc h => scan_round hPl hk r k acc _ h
        have HPLC : Hid (∀ x, 0 ≤ placeV a z x ∧ placeV a z x < 12) := fun x => place_in a z 12 x hk
        clear ownL D3 O3 hPl hk
        go_upto_region 14 with fail
        have HL0 : Hid (SLp w3 w3 (.slice none 0 0) Z 0 [] a z fst dP (cs, E, dP.tick jj)) := ⟨rfl, OwnCk.nil _ _, Below.refl _ _, HSQ.out⟩
        clear HSQ
        go_wp2
        go_loopw [16, 17] (fun wv i wr => ∃ (k : Nat) (acc : List Ck.O), k ≤ Z ∧ i = .int .i64 k ∧ SLp w3 wr wv Z k acc a z fst dP (cs, E, dP.tick jj)) (fun _ i _ => Z - (intOf i).toNat)
        case atStart => exact ⟨0, [], by omega, rfl, HL0.out⟩
        case round =>
          clear HL0
          rename World => wy
          obtain ⟨k, acc, hkZ, rfl, hal, ownW, bw, hsc⟩ := hrel
          obtain ⟨oc, cc, hv⟩ := ownW.form
          subst hv
          have HAL : Hid (acc.length = k) := hal
          clear hal
          by_cases hkz : k < Z
          · have hzZ := HZz.out
            have hkz' : (k : Int) < z := by omega
            obtain ⟨r, hr⟩ : ∃ r, Z - k = r + 1 := ⟨Z - k - 1, by omega⟩
            have hrr : Z - (k + 1) = r := by omega
            rw [hr] at hsc
            obtain ⟨hR1, hR2, hR3⟩ := HRD.out r k acc hsc
            clear hsc
            have v1 : IntKind.u32.wrap (k : Int) = k := by rw [IntKind.wrap_u32]; omega
            have v2 : IntKind.i64.wrap ((k : Int) + 1) = (k : Int) + 1 := by rw [IntKind.wrap_i64]; omega
            have v3 : IntKind.i64.wrap fl = fl := by rw [IntKind.wrap_i64]; omega
            by_cases hfl : (k : Int) + 1 = fl
            · obtain ⟨hc0, hE3⟩ := hR1 hfl
              subst hc0 hE3
              have hfl' : ((k : Int) + 1 == fl) = true := by simp [hfl]
              clear hR1 hR2 hR3 hzZ HRD HSN HSF HPLC HOL ownW
              have hb5 := hb3.trans (bw.mono hb3.size)
              go_wp2_with (go_at_call 10; refine Calls.mono (HA.out _) ?_; clear HA; rintro ex wz ⟨rfl, hz⟩)
              go_ret
              exact ⟨rfl, hb5.trans (hz.mono hb5.size)⟩
            · have hfl' : ((k : Int) + 1 == fl) = false := by simp [hfl]
              have hR2 := hR2 hfl
              have hR3 := hR3 hfl
              have hnum := wrap32 (fst + k)
              have hpl := HPLC.out (IntKind.u32.wrap (fst + k))
              have hsf := HSF.out _ hpl.1 hpl.2
              have HSN2 : Hid _ := HSN.out wy _ bw hpl.1 hpl.2
              have hm1 : (IntKind.u32.wrap (fst + k)).tmod z = IntKind.u32.wrap (fst + k) % z := Int.tmod_eq_emod_of_nonneg hnum.1
              have hm0 := Int.emod_nonneg (IntKind.u32.wrap (fst + k)) (show z ≠ 0 by omega)
              have hm2 := Int.emod_lt_of_pos (IntKind.u32.wrap (fst + k)) (show 0 < z by omega)
              have HPV : placeV a z (IntKind.u32.wrap (fst + k)) = a + IntKind.u32.wrap (fst + k) % z := rfl
              clear hR1 hfl hzZ HRD HSN HSF HPLC
              generalize dP.seen (placeV a z (IntKind.u32.wrap (fst + k))) = x at hsf HSN2 hR2 hR3
              rw [HPV] at HSN2
              clear HPV hpl
              generalize hnn : IntKind.u32.wrap (fst + k) = num at hR2 hR3 hnum HSN2 hm1 hm0 hm2
              generalize num % z = mm at HSN2 hm1 hm0 hm2
              have v4 : IntKind.u32.wrap z = z := by rw [IntKind.wrap_u32]; omega
              have v5 : IntKind.u32.wrap mm = mm := by rw [IntKind.wrap_u32]; omega
              have v6 : IntKind.i64.wrap mm = mm := by rw [IntKind.wrap_i64]; omega
              have v7 : IntKind.i64.wrap (a + mm) = a + mm := by rw [IntKind.wrap_i64]; omega
              have hz0 : ¬ z = 0 := by omega
              have HUN : Hid (∀ w, Calls Try.prog 35 #[.agg (bs x)] w fun ex w' => ex = .returned (.tuple #[.agg (gotC x), .bool (isB x)]) ∧ Below w.heap.size w w') := fun w => runpack_any x w hsf.1 hsf.2
              clear hsf
              cases hB : isB x with
              | false =>
                have hgc : gotC x = #[.int .u32 0, .int .u32 0, .int .u64 0, .string ByteArray.empty] := by unfold gotC; rw [hB]; rfl
                obtain ⟨hcs, hE⟩ := hR2 (Or.inl hB)
                rw [hB] at HUN
                rw [hgc] at HUN
                clear hgc hB hR2 hR3
                go_upto_region 22 with (first
                  | (go_at_call 29; refine Calls.mono (HSN2.out) ?_; clear HSN2; rintro e w5 ⟨rfl, h5⟩)
                  | (go_at_call 35; refine Calls.mono (HUN.out _) ?_; clear HUN; rintro e w6 ⟨rfl, h6⟩
                     have r19z : Row (w6.alloc (.cells #[.int .u32 0, .int .u32 0, .int .u64 0, .string ByteArray.empty] 65)) w6.heap.size #[.int .u32 0, .int .u32 0, .int .u64 0, .string ByteArray.empty] 65 := Row.new _ _ _
                     have ub0 := bw.trans (h5.mono bw.size)
                     have ub1 := ub0.trans (h6.mono ub0.size)
                     have ub := ub1.alloc ub1.size (.cells #[.int .u32 0, .int .u32 0, .int .u64 0, .string ByteArray.empty] 65))
                  | (refine store_cells rfl 65 (.tmp 19) (.tmp 116) rfl w6.heap.size #[.int .u32 0, .int .u32 0, .int .u64 0, .string ByteArray.empty] rfl rfl 65 _ r19z 4 Ck.size65 rfl rfl (by simp [Value.oneCell']) ?_))
                have v19 := r19z.set #[.int .u32 0, .int .u32 0, .int .u64 0, .string ByteArray.empty]
                have vb := below_setRow ub ub1.size #[.int .u32 0, .int .u32 0, .int .u64 0, .string ByteArray.empty]
                have vw : Below wy.heap.size wy ((w6.alloc (.cells #[.int .u32 0, .int .u32 0, .int .u64 0, .string ByteArray.empty] 65)).setRow w6.heap.size #[.int .u32 0, .int .u32 0, .int .u64 0, .string ByteArray.empty]) := by
                  have k1 := h5.trans (h6.mono h5.size)
                  exact below_setRow (k1.alloc k1.size (.cells #[.int .u32 0, .int .u32 0, .int .u64 0, .string ByteArray.empty] 65)) k1.size #[.int .u32 0, .int .u32 0, .int .u64 0, .string ByteArray.empty]
                clear r19z ub ub0 ub1 h5 h6
                generalize (w6.alloc (.cells #[.int .u32 0, .int .u32 0, .int .u64 0, .string ByteArray.empty] 65)).setRow w6.heap.size #[.int .u32 0, .int .u32 0, .int .u64 0, .string ByteArray.empty] = w9 at v19 vb vw ⊢
                generalize w6.heap.size = g19 at v19 ⊢
                have ownW := ownW.keep vw
                have bw := vb
                clear vw vb
                have hcs : acc = cs := hcs.symm
                have hE : (0 : Int) = E := hE.symm
                subst hcs hE
                have ownL := Ck.Own.keep HOL.out bw
                have hb4 : Below w.heap.size w w9 := hb3.trans (bw.mono hb3.size)
                obtain ⟨K, HK⟩ : ∃ K, Hid (acc.length = K) := ⟨_, rfl⟩
                have hK12 : K ≤ 1000 := by
                  have h1 := HK.out
                  have h2 := HAL.out
                  have h3 := HZz.out
                  omega
                have HAT : Hid (∀ q, q < K → ∃ (pa pb : Addr) (c : Ck.O), ob = some pa ∧ oc = some pb ∧ (∀ wx, Below w9.heap.size w9 wx → ∀ j u, c.cells[j]? = some u → wx.cell? ((pa.add (q * 4)).add j) = some u) ∧ (∀ wx, Below w9.heap.size w9 wx → ∀ j u, c.cells[j]? = some u → wx.cell? ((pb.add (q * 4)).add j) = some u)) := fun q hq => by
                  obtain ⟨pa, c1, c, e1, e2, e3⟩ := Ck.Own.at ownL q (by rw [HK.out]; exact hq)
                  obtain ⟨pb, c2, c', f1, f2, f3⟩ := Ck.Own.at ownW q (by rw [HK.out]; exact hq)
                  rw [e2] at f2
                  cases f2
                  cases e1
                  cases f1
                  exact ⟨pa, pb, c, rfl, rfl, fun wx hb j u hj => Ck.cell_keep (e3 j u hj) hb, fun wx hb j u hj => Ck.cell_keep (f3 j u hj) hb⟩
                rw [HK.out]
                clear ownL ownW bw HOL
                go_upto_region 26 with fail
                go_wp2
                go_loopw [141] (fun i wq => ∃ (q : Nat), q ≤ K ∧ i = .int .i64 q ∧ Below w9.heap.size w9 wq) (fun i _ => K - (intOf i).toNat)
                case atStart => exact ⟨0, by omega, rfl, Below.refl _ _⟩
                case round =>
                  rename World => wq
                  obtain ⟨q, hq, rfl, hbq⟩ := hrel
                  by_cases hqk : q < K
                  · have hqk' : (q : Int) < (K : Int) := by omega
                    have hq0 : (0 : Int) ≤ (q : Int) := by omega
                    obtain ⟨pa, pb, c, rfl, rfl, h1, h2⟩ := HAT.out q hqk
                    have heq : ∀ w, (Op.equalIn 10000 65 (.agg #[.int .u32 c.ep, .int .u32 c.num, .int .u64 c.off, .string c.txt]) (.agg #[.int .u32 c.ep, .int .u32 c.num, .int .u64 c.off, .string c.txt])).run Try.prog w = .ok true w := fun w => by
                      have := equal65 c.ep c.num c.off c.ep c.num c.off c.txt c.txt w
                      simpa using this
                    go_upto_region 29 with fail
                    refine wp_region_held_drew (S := fun w' => Below w9.heap.size w9 w') (by kernel_rfl) hbq.drew fun hS => ?_
                    refine wpAnyH_take (i := 0) (v := .slice (some pa) K cb) rfl (by kernel_rfl) (by kernel_rfl) (by kernel_rfl) (fun _ _ _ h => h) (Or.inl ⟨by rfl, fun w _ => by go_simp⟩) hS ?_
                    try simp only [Act.put, List.getElem_toArray, List.getElem_cons_zero, List.getElem_cons_succ, List.setIfInBounds_toArray, List.set_cons_zero, List.set_cons_succ]
                    refine wpAnyH_take (i := 1) (v := .int .i64 q) rfl (by kernel_rfl) (by kernel_rfl) (by kernel_rfl) (fun _ _ _ h => h) (Or.inl ⟨by rfl, fun w _ => by go_simp⟩) hS ?_
                    try simp only [Act.put, List.getElem_toArray, List.getElem_cons_zero, List.getElem_cons_succ, List.setIfInBounds_toArray, List.set_cons_zero, List.set_cons_succ]
                    refine wpAnyH_take (i := 2) (v := .pointer (some (pa.add (q * 4)))) rfl (by kernel_rfl) (by kernel_rfl) (by kernel_rfl) (fun _ _ _ h => h) (Or.inl ⟨by rfl, fun w _ => by go_simp⟩) hS ?_
                    try simp only [Act.put, List.getElem_toArray, List.getElem_cons_zero, List.getElem_cons_succ, List.setIfInBounds_toArray, List.set_cons_zero, List.set_cons_succ]
                    refine wpAnyH_take (i := 3) (v := .agg #[.int .u32 c.ep, .int .u32 c.num, .int .u64 c.off, .string c.txt]) rfl (by kernel_rfl) (by kernel_rfl) (by kernel_rfl) (fun _ _ _ h => h) (yields_any (by rfl) 65 (.tmp 146) rfl (pa.add (q * 4)) rfl c.cells _ (fun w h => h1 w h) Try.underlying65 rfl Ck.size65) hS ?_
                    try simp only [Act.put, List.getElem_toArray, List.getElem_cons_zero, List.getElem_cons_succ, List.setIfInBounds_toArray, List.set_cons_zero, List.set_cons_succ]
                    refine wpAnyH_take (i := 4) (v := .slice (some pb) K cc) rfl (by kernel_rfl) (by kernel_rfl) (by kernel_rfl) (fun _ _ _ h => h) (Or.inl ⟨by rfl, fun w _ => by go_simp⟩) hS ?_
                    try simp only [Act.put, List.getElem_toArray, List.getElem_cons_zero, List.getElem_cons_succ, List.setIfInBounds_toArray, List.set_cons_zero, List.set_cons_succ]
                    refine wpAnyH_take (i := 5) (v := .int .i64 q) rfl (by kernel_rfl) (by kernel_rfl) (by kernel_rfl) (fun _ _ _ h => h) (Or.inl ⟨by rfl, fun w _ => by go_simp⟩) hS ?_
                    try simp only [Act.put, List.getElem_toArray, List.getElem_cons_zero, List.getElem_cons_succ, List.setIfInBounds_toArray, List.set_cons_zero, List.set_cons_succ]
                    refine wpAnyH_take (i := 6) (v := .pointer (some (pb.add (q * 4)))) rfl (by kernel_rfl) (by kernel_rfl) (by kernel_rfl) (fun _ _ _ h => h) (Or.inl ⟨by rfl, fun w _ => by go_simp⟩) hS ?_
                    try simp only [Act.put, List.getElem_toArray, List.getElem_cons_zero, List.getElem_cons_succ, List.setIfInBounds_toArray, List.set_cons_zero, List.set_cons_succ]
                    refine wpAnyH_take (i := 7) (v := .agg #[.int .u32 c.ep, .int .u32 c.num, .int .u64 c.off, .string c.txt]) rfl (by kernel_rfl) (by kernel_rfl) (by kernel_rfl) (fun _ _ _ h => h) (yields_any (by rfl) 65 (.tmp 150) rfl (pb.add (q * 4)) rfl c.cells _ (fun w h => h2 w h) Try.underlying65 rfl Ck.size65) hS ?_
                    try simp only [Act.put, List.getElem_toArray, List.getElem_cons_zero, List.getElem_cons_succ, List.setIfInBounds_toArray, List.set_cons_zero, List.set_cons_succ]
                    refine wpAnyH_take (i := 8) (v := .bool false) rfl (by kernel_rfl) (by kernel_rfl) (by kernel_rfl) (fun _ _ _ h => h) (Or.inl ⟨by rfl, fun w _ => by have e := heq w; go_simp⟩) hS ?_
                    try simp only [Act.put, List.getElem_toArray, List.getElem_cons_zero, List.getElem_cons_succ, List.setIfInBounds_toArray, List.set_cons_zero, List.set_cons_succ]
                    refine wpAnyH_done (by kernel_rfl) ?_ _
                    go_wp2
                    go_roundw
                    case rel => exact ⟨q + 1, by omega, by go_num, hS⟩
                    case measure => simp [intOf]; omega
                  · obtain rfl : K = q := by omega
                    have hqk' : ¬ (K : Int) < (K : Int) := by omega
                    go_wp2_with (go_at_call 10; refine Calls.mono (HA.out _) ?_; clear HA; rintro ex wz ⟨rfl, hz⟩)
                    go_ret
                    have b5 := hb4.trans (hbq.mono hb4.size)
                    exact ⟨rfl, b5.trans (hz.mono b5.size)⟩
              | true =>
                have hgc : gotC x = #[.int .u32 (uE x), .int .u32 (uN x), .int .u64 (uO x), .string (strOfNums (uL x))] := by unfold gotC; rw [hB]; rfl
                rw [hB] at HUN
                rw [hgc] at HUN
                have hR2b : uN x ≠ num → cs = acc ∧ E = 0 := fun q => hR2 (Or.inr q)
                have hR3b : uN x = num → scanF a z fst r (k + 1 : Nat) (dP.tick (k + 1 : Nat)) (acc ++ [⟨uE x, uN x, uO x, strOfNums (uL x)⟩]) = (cs, E, dP.tick jj) := fun q => hR3 hB q
                clear hgc hB hR2 hR3
                generalize uE x = x0 at HUN hR3b
                generalize uN x = x1 at HUN hR2b hR3b
                generalize uO x = x2 at HUN hR3b
                generalize strOfNums (uL x) = x3 at HUN hR3b
                by_cases hN : x1 = num
                · have HSC : Hid _ := hR3b hN
                  clear hR2b hR3b
                  subst hN
                  have hN' : (x1 != x1) = false := by simp
                  go_upto_region 22 with (first
                    | (go_at_call 29; refine Calls.mono (HSN2.out) ?_; clear HSN2; rintro e w5 ⟨rfl, h5⟩)
                    | (go_at_call 35; refine Calls.mono (HUN.out _) ?_; clear HUN; rintro e w6 ⟨rfl, h6⟩
                       have r19z : Row (w6.alloc (.cells #[.int .u32 0, .int .u32 0, .int .u64 0, .string ByteArray.empty] 65)) w6.heap.size #[.int .u32 0, .int .u32 0, .int .u64 0, .string ByteArray.empty] 65 := Row.new _ _ _
                       have ub0 := bw.trans (h5.mono bw.size)
                       have ub1 := ub0.trans (h6.mono ub0.size)
                       have ub := ub1.alloc ub1.size (.cells #[.int .u32 0, .int .u32 0, .int .u64 0, .string ByteArray.empty] 65))
                    | (refine store_cells rfl 65 (.tmp 19) (.tmp 116) rfl w6.heap.size #[.int .u32 x0, .int .u32 x1, .int .u64 x2, .string x3] rfl rfl 65 _ r19z 4 Ck.size65 rfl rfl (by simp [Value.oneCell']) ?_))
                  have v19 := r19z.set #[.int .u32 x0, .int .u32 x1, .int .u64 x2, .string x3]
                  have vb := below_setRow ub ub1.size #[.int .u32 x0, .int .u32 x1, .int .u64 x2, .string x3]
                  have vw : Below wy.heap.size wy ((w6.alloc (.cells #[.int .u32 0, .int .u32 0, .int .u64 0, .string ByteArray.empty] 65)).setRow w6.heap.size #[.int .u32 x0, .int .u32 x1, .int .u64 x2, .string x3]) := by
                    have k1 := h5.trans (h6.mono h5.size)
                    exact below_setRow (k1.alloc k1.size (.cells #[.int .u32 0, .int .u32 0, .int .u64 0, .string ByteArray.empty] 65)) k1.size #[.int .u32 x0, .int .u32 x1, .int .u64 x2, .string x3]
                  clear r19z ub ub0 ub1 h5 h6
                  generalize (w6.alloc (.cells #[.int .u32 0, .int .u32 0, .int .u64 0, .string ByteArray.empty] 65)).setRow w6.heap.size #[.int .u32 x0, .int .u32 x1, .int .u64 x2, .string x3] = w9 at v19 vb vw ⊢
                  generalize w6.heap.size = g19 at v19 ⊢
                  have ownW := ownW.keep vw
                  have bw := vb
                  clear vw vb
                  have c1 := row_at v19 1 _ rfl
                  have bB : Below w3.heap.size w3 (w9.alloc (.cells #[.int .u32 x0, .int .u32 x1, .int .u64 x2, .string x3] 65)) := bw.alloc bw.size _
                  have ownB := ownW.alloc (.cells #[.int .u32 x0, .int .u32 x1, .int .u64 x2, .string x3] 65)
                  have rX : Row (w9.alloc (.cells #[.int .u32 x0, .int .u32 x1, .int .u64 x2, .string x3] 65)) w9.heap.size (Ck.O.arr ⟨x0, x1, x2, x3⟩) 65 := Row.new _ _ _
                  have HR : Hid (∀ ty, ∃ v' w', (Builtin.append_ #[47, 47] ty #[.slice oc acc.length cc, .slice (some ⟨w9.heap.size, 0, none⟩) 1 1]).run Try.prog (w9.alloc (.cells #[.int .u32 x0, .int .u32 x1, .int .u64 x2, .string x3] 65)) = .ok v' w' ∧ (Ck.Own w' w3.heap.size v' (acc ++ [⟨x0, x1, x2, x3⟩]) ∧ (w9.alloc (.cells #[.int .u32 x0, .int .u32 x1, .int .u64 x2, .string x3] 65)).grownBy w' (Value.slice oc acc.length cc).ownBlock ∧ (v'.ownBlock = (Value.slice oc acc.length cc).ownBlock ∨ v'.ownBlock = some (w9.alloc (.cells #[.int .u32 x0, .int .u32 x1, .int .u64 x2, .string x3] 65)).heap.size))) := fun ty => by
                    have hws := bw.size
                    exact Ck.Own.snocR ownB ty w9.heap.size ⟨x0, x1, x2, x3⟩ rX (by simp; omega) (by have := HAL.out; omega)
                  have HLT : Hid (∀ b, (Value.slice oc acc.length cc).ownBlock = some b → w3.heap.size ≤ b) := fun b hb => (World.ownsRow.lt ownB b hb).1
                  clear ownW bw ownB
                  go_upto_region 17 with (first
                    | (refine load_cells rfl 65 (.tmp 19) rfl g19 rfl 65 _ v19 4 Try.underlying65 rfl Ck.size65 rfl ?_)
                    | (at_builtin; refine Ck.wpList_copy rfl (.tmp 126) (.tmp 128) 47 rfl _ _ rfl rfl (fun ty => HR.out ty) ?_
                       rintro v12 w12 ⟨own12, gr12, hv12⟩))
                  have b12 : Below w3.heap.size w3 w12 := bB.trans ((Off.of_grown (F := fun j => (Value.slice oc acc.length cc).ownBlock = some j) gr12 (fun k hk => hk)).below bB.size (fun j q => HLT.out j q))
                  have HNX : Hid (SLp w3 w12 v12 Z (k + 1) (acc ++ [⟨x0, x1, x2, x3⟩]) a z fst dP (cs, E, dP.tick jj)) := ⟨by rw [List.length_append, HAL.out]; rfl, own12, b12, by rw [hrr]; exact HSC.out⟩
                  clear own12 gr12 hv12 b12 HSC HR HLT bB rX v19 c1
                  go_wp2
                  go_roundw
                  case rel => exact ⟨k + 1, _, by omega, by go_num, HNX.out⟩
                  case measure => simp [intOf]; omega
                · obtain ⟨hcs, hE⟩ := hR2b hN
                  have hN' : (x1 != num) = true := by simp [hN]
                  clear hR2b hR3b hN
                  go_upto_region 22 with (first
                    | (go_at_call 29; refine Calls.mono (HSN2.out) ?_; clear HSN2; rintro e w5 ⟨rfl, h5⟩)
                    | (go_at_call 35; refine Calls.mono (HUN.out _) ?_; clear HUN; rintro e w6 ⟨rfl, h6⟩
                       have r19z : Row (w6.alloc (.cells #[.int .u32 0, .int .u32 0, .int .u64 0, .string ByteArray.empty] 65)) w6.heap.size #[.int .u32 0, .int .u32 0, .int .u64 0, .string ByteArray.empty] 65 := Row.new _ _ _
                       have ub0 := bw.trans (h5.mono bw.size)
                       have ub1 := ub0.trans (h6.mono ub0.size)
                       have ub := ub1.alloc ub1.size (.cells #[.int .u32 0, .int .u32 0, .int .u64 0, .string ByteArray.empty] 65))
                    | (refine store_cells rfl 65 (.tmp 19) (.tmp 116) rfl w6.heap.size #[.int .u32 x0, .int .u32 x1, .int .u64 x2, .string x3] rfl rfl 65 _ r19z 4 Ck.size65 rfl rfl (by simp [Value.oneCell']) ?_))
                  have v19 := r19z.set #[.int .u32 x0, .int .u32 x1, .int .u64 x2, .string x3]
                  have vb := below_setRow ub ub1.size #[.int .u32 x0, .int .u32 x1, .int .u64 x2, .string x3]
                  have vw : Below wy.heap.size wy ((w6.alloc (.cells #[.int .u32 0, .int .u32 0, .int .u64 0, .string ByteArray.empty] 65)).setRow w6.heap.size #[.int .u32 x0, .int .u32 x1, .int .u64 x2, .string x3]) := by
                    have k1 := h5.trans (h6.mono h5.size)
                    exact below_setRow (k1.alloc k1.size (.cells #[.int .u32 0, .int .u32 0, .int .u64 0, .string ByteArray.empty] 65)) k1.size #[.int .u32 x0, .int .u32 x1, .int .u64 x2, .string x3]
                  clear r19z ub ub0 ub1 h5 h6
                  generalize (w6.alloc (.cells #[.int .u32 0, .int .u32 0, .int .u64 0, .string ByteArray.empty] 65)).setRow w6.heap.size #[.int .u32 x0, .int .u32 x1, .int .u64 x2, .string x3] = w9 at v19 vb vw ⊢
                  generalize w6.heap.size = g19 at v19 ⊢
                  have ownW := ownW.keep vw
                  have bw := vb
                  clear vw vb
                  have c1 := row_at v19 1 _ rfl
                  have hcs : acc = cs := hcs.symm
                  have hE : (0 : Int) = E := hE.symm
                  subst hcs hE
                  have ownL := Ck.Own.keep HOL.out bw
                  have hb4 : Below w.heap.size w w9 := hb3.trans (bw.mono hb3.size)
                  obtain ⟨K, HK⟩ : ∃ K, Hid (acc.length = K) := ⟨_, rfl⟩
                  have hK12 : K ≤ 1000 := by
                    have h1 := HK.out
                    have h2 := HAL.out
                    have h3 := HZz.out
                    omega
                  have HAT : Hid (∀ q, q < K → ∃ (pa pb : Addr) (c : Ck.O), ob = some pa ∧ oc = some pb ∧ (∀ wx, Below w9.heap.size w9 wx → ∀ j u, c.cells[j]? = some u → wx.cell? ((pa.add (q * 4)).add j) = some u) ∧ (∀ wx, Below w9.heap.size w9 wx → ∀ j u, c.cells[j]? = some u → wx.cell? ((pb.add (q * 4)).add j) = some u)) := fun q hq => by
                    obtain ⟨pa, c1, c, e1, e2, e3⟩ := Ck.Own.at ownL q (by rw [HK.out]; exact hq)
                    obtain ⟨pb, c2, c', f1, f2, f3⟩ := Ck.Own.at ownW q (by rw [HK.out]; exact hq)
                    rw [e2] at f2
                    cases f2
                    cases e1
                    cases f1
                    exact ⟨pa, pb, c, rfl, rfl, fun wx hb j u hj => Ck.cell_keep (e3 j u hj) hb, fun wx hb j u hj => Ck.cell_keep (f3 j u hj) hb⟩
                  rw [HK.out]
                  clear ownL ownW bw HOL
                  go_upto_region 26 with fail
                  go_wp2
                  go_loopw [141] (fun i wq => ∃ (q : Nat), q ≤ K ∧ i = .int .i64 q ∧ Below w9.heap.size w9 wq) (fun i _ => K - (intOf i).toNat)
                  case atStart => exact ⟨0, by omega, rfl, Below.refl _ _⟩
                  case round =>
                    rename World => wq
                    obtain ⟨q, hq, rfl, hbq⟩ := hrel
                    by_cases hqk : q < K
                    · have hqk' : (q : Int) < (K : Int) := by omega
                      have hq0 : (0 : Int) ≤ (q : Int) := by omega
                      obtain ⟨pa, pb, c, rfl, rfl, h1, h2⟩ := HAT.out q hqk
                      have heq : ∀ w, (Op.equalIn 10000 65 (.agg #[.int .u32 c.ep, .int .u32 c.num, .int .u64 c.off, .string c.txt]) (.agg #[.int .u32 c.ep, .int .u32 c.num, .int .u64 c.off, .string c.txt])).run Try.prog w = .ok true w := fun w => by
                        have := equal65 c.ep c.num c.off c.ep c.num c.off c.txt c.txt w
                        simpa using this
                      go_upto_region 29 with fail
                      refine wp_region_held_drew (S := fun w' => Below w9.heap.size w9 w') (by kernel_rfl) hbq.drew fun hS => ?_
                      refine wpAnyH_take (i := 0) (v := .slice (some pa) K cb) rfl (by kernel_rfl) (by kernel_rfl) (by kernel_rfl) (fun _ _ _ h => h) (Or.inl ⟨by rfl, fun w _ => by go_simp⟩) hS ?_
                      try simp only [Act.put, List.getElem_toArray, List.getElem_cons_zero, List.getElem_cons_succ, List.setIfInBounds_toArray, List.set_cons_zero, List.set_cons_succ]
                      refine wpAnyH_take (i := 1) (v := .int .i64 q) rfl (by kernel_rfl) (by kernel_rfl) (by kernel_rfl) (fun _ _ _ h => h) (Or.inl ⟨by rfl, fun w _ => by go_simp⟩) hS ?_
                      try simp only [Act.put, List.getElem_toArray, List.getElem_cons_zero, List.getElem_cons_succ, List.setIfInBounds_toArray, List.set_cons_zero, List.set_cons_succ]
                      refine wpAnyH_take (i := 2) (v := .pointer (some (pa.add (q * 4)))) rfl (by kernel_rfl) (by kernel_rfl) (by kernel_rfl) (fun _ _ _ h => h) (Or.inl ⟨by rfl, fun w _ => by go_simp⟩) hS ?_
                      try simp only [Act.put, List.getElem_toArray, List.getElem_cons_zero, List.getElem_cons_succ, List.setIfInBounds_toArray, List.set_cons_zero, List.set_cons_succ]
                      refine wpAnyH_take (i := 3) (v := .agg #[.int .u32 c.ep, .int .u32 c.num, .int .u64 c.off, .string c.txt]) rfl (by kernel_rfl) (by kernel_rfl) (by kernel_rfl) (fun _ _ _ h => h) (yields_any (by rfl) 65 (.tmp 146) rfl (pa.add (q * 4)) rfl c.cells _ (fun w h => h1 w h) Try.underlying65 rfl Ck.size65) hS ?_
                      try simp only [Act.put, List.getElem_toArray, List.getElem_cons_zero, List.getElem_cons_succ, List.setIfInBounds_toArray, List.set_cons_zero, List.set_cons_succ]
                      refine wpAnyH_take (i := 4) (v := .slice (some pb) K cc) rfl (by kernel_rfl) (by kernel_rfl) (by kernel_rfl) (fun _ _ _ h => h) (Or.inl ⟨by rfl, fun w _ => by go_simp⟩) hS ?_
                      try simp only [Act.put, List.getElem_toArray, List.getElem_cons_zero, List.getElem_cons_succ, List.setIfInBounds_toArray, List.set_cons_zero, List.set_cons_succ]
                      refine wpAnyH_take (i := 5) (v := .int .i64 q) rfl (by kernel_rfl) (by kernel_rfl) (by kernel_rfl) (fun _ _ _ h => h) (Or.inl ⟨by rfl, fun w _ => by go_simp⟩) hS ?_
                      try simp only [Act.put, List.getElem_toArray, List.getElem_cons_zero, List.getElem_cons_succ, List.setIfInBounds_toArray, List.set_cons_zero, List.set_cons_succ]
                      refine wpAnyH_take (i := 6) (v := .pointer (some (pb.add (q * 4)))) rfl (by kernel_rfl) (by kernel_rfl) (by kernel_rfl) (fun _ _ _ h => h) (Or.inl ⟨by rfl, fun w _ => by go_simp⟩) hS ?_
                      try simp only [Act.put, List.getElem_toArray, List.getElem_cons_zero, List.getElem_cons_succ, List.setIfInBounds_toArray, List.set_cons_zero, List.set_cons_succ]
                      refine wpAnyH_take (i := 7) (v := .agg #[.int .u32 c.ep, .int .u32 c.num, .int .u64 c.off, .string c.txt]) rfl (by kernel_rfl) (by kernel_rfl) (by kernel_rfl) (fun _ _ _ h => h) (yields_any (by rfl) 65 (.tmp 150) rfl (pb.add (q * 4)) rfl c.cells _ (fun w h => h2 w h) Try.underlying65 rfl Ck.size65) hS ?_
                      try simp only [Act.put, List.getElem_toArray, List.getElem_cons_zero, List.getElem_cons_succ, List.setIfInBounds_toArray, List.set_cons_zero, List.set_cons_succ]
                      refine wpAnyH_take (i := 8) (v := .bool false) rfl (by kernel_rfl) (by kernel_rfl) (by kernel_rfl) (fun _ _ _ h => h) (Or.inl ⟨by rfl, fun w _ => by have e := heq w; go_simp⟩) hS ?_
                      try simp only [Act.put, List.getElem_toArray, List.getElem_cons_zero, List.getElem_cons_succ, List.setIfInBounds_toArray, List.set_cons_zero, List.set_cons_succ]
                      refine wpAnyH_done (by kernel_rfl) ?_ _
                      go_wp2
                      go_roundw
                      case rel => exact ⟨q + 1, by omega, by go_num, hS⟩
                      case measure => simp [intOf]; omega
                    · obtain rfl : K = q := by omega
                      have hqk' : ¬ (K : Int) < (K : Int) := by omega
                      go_wp2_with (go_at_call 10; refine Calls.mono (HA.out _) ?_; clear HA; rintro ex wz ⟨rfl, hz⟩)
                      go_ret
                      have b5 := hb4.trans (hbq.mono hb4.size)
                      exact ⟨rfl, b5.trans (hz.mono b5.size)⟩

          · have hzZ := HZz.out
            have hkk' : ¬ (k : Int) < z := by omega
            have e0 : Z - k = 0 := by omega
            rw [e0, scanF_nil] at hsc
            have hcs : acc = cs := congrArg (·.1) hsc
            have hE : (0 : Int) = E := congrArg (·.2.1) hsc
            clear hsc e0 HSN HSF HRD HPLC hzZ
            subst hcs hE
            have ownL := Ck.Own.keep HOL.out bw
            have hb4 : Below w.heap.size w wy := hb3.trans (bw.mono hb3.size)
            obtain ⟨K, HK⟩ : ∃ K, Hid (acc.length = K) := ⟨_, rfl⟩
            have hK12 : K ≤ 1000 := by
              have h1 := HK.out
              have h2 := HAL.out
              have h3 := HZz.out
              omega
            have HAT : Hid (∀ q, q < K → ∃ (pa pb : Addr) (c : Ck.O), ob = some pa ∧ oc = some pb ∧ (∀ wx, Below wy.heap.size wy wx → ∀ j u, c.cells[j]? = some u → wx.cell? ((pa.add (q * 4)).add j) = some u) ∧ (∀ wx, Below wy.heap.size wy wx → ∀ j u, c.cells[j]? = some u → wx.cell? ((pb.add (q * 4)).add j) = some u)) := fun q hq => by
              obtain ⟨pa, c1, c, e1, e2, e3⟩ := Ck.Own.at ownL q (by rw [HK.out]; exact hq)
              obtain ⟨pb, c2, c', f1, f2, f3⟩ := Ck.Own.at ownW q (by rw [HK.out]; exact hq)
              rw [e2] at f2
              cases f2
              cases e1
              cases f1
              exact ⟨pa, pb, c, rfl, rfl, fun wx hb j u hj => Ck.cell_keep (e3 j u hj) hb, fun wx hb j u hj => Ck.cell_keep (f3 j u hj) hb⟩
            rw [HK.out]
            clear ownL ownW bw HOL
            go_upto_region 26 with fail
            go_wp2
            go_loopw [141] (fun i wq => ∃ (q : Nat), q ≤ K ∧ i = .int .i64 q ∧ Below wy.heap.size wy wq) (fun i _ => K - (intOf i).toNat)
            case atStart => exact ⟨0, by omega, rfl, Below.refl _ _⟩
            case round =>
              rename World => wq
              obtain ⟨q, hq, rfl, hbq⟩ := hrel
              by_cases hqk : q < K
              · have hqk' : (q : Int) < (K : Int) := by omega
                have hq0 : (0 : Int) ≤ (q : Int) := by omega
                obtain ⟨pa, pb, c, rfl, rfl, h1, h2⟩ := HAT.out q hqk
                have heq : ∀ w, (Op.equalIn 10000 65 (.agg #[.int .u32 c.ep, .int .u32 c.num, .int .u64 c.off, .string c.txt]) (.agg #[.int .u32 c.ep, .int .u32 c.num, .int .u64 c.off, .string c.txt])).run Try.prog w = .ok true w := fun w => by
                  have := equal65 c.ep c.num c.off c.ep c.num c.off c.txt c.txt w
                  simpa using this
                go_upto_region 29 with fail
                refine wp_region_held_drew (S := fun w' => Below wy.heap.size wy w') (by kernel_rfl) hbq.drew fun hS => ?_
                refine wpAnyH_take (i := 0) (v := .slice (some pa) K cb) rfl (by kernel_rfl) (by kernel_rfl) (by kernel_rfl) (fun _ _ _ h => h) (Or.inl ⟨by rfl, fun w _ => by go_simp⟩) hS ?_
                try simp only [Act.put, List.getElem_toArray, List.getElem_cons_zero, List.getElem_cons_succ, List.setIfInBounds_toArray, List.set_cons_zero, List.set_cons_succ]
                refine wpAnyH_take (i := 1) (v := .int .i64 q) rfl (by kernel_rfl) (by kernel_rfl) (by kernel_rfl) (fun _ _ _ h => h) (Or.inl ⟨by rfl, fun w _ => by go_simp⟩) hS ?_
                try simp only [Act.put, List.getElem_toArray, List.getElem_cons_zero, List.getElem_cons_succ, List.setIfInBounds_toArray, List.set_cons_zero, List.set_cons_succ]
                refine wpAnyH_take (i := 2) (v := .pointer (some (pa.add (q * 4)))) rfl (by kernel_rfl) (by kernel_rfl) (by kernel_rfl) (fun _ _ _ h => h) (Or.inl ⟨by rfl, fun w _ => by go_simp⟩) hS ?_
                try simp only [Act.put, List.getElem_toArray, List.getElem_cons_zero, List.getElem_cons_succ, List.setIfInBounds_toArray, List.set_cons_zero, List.set_cons_succ]
                refine wpAnyH_take (i := 3) (v := .agg #[.int .u32 c.ep, .int .u32 c.num, .int .u64 c.off, .string c.txt]) rfl (by kernel_rfl) (by kernel_rfl) (by kernel_rfl) (fun _ _ _ h => h) (yields_any (by rfl) 65 (.tmp 146) rfl (pa.add (q * 4)) rfl c.cells _ (fun w h => h1 w h) Try.underlying65 rfl Ck.size65) hS ?_
                try simp only [Act.put, List.getElem_toArray, List.getElem_cons_zero, List.getElem_cons_succ, List.setIfInBounds_toArray, List.set_cons_zero, List.set_cons_succ]
                refine wpAnyH_take (i := 4) (v := .slice (some pb) K cc) rfl (by kernel_rfl) (by kernel_rfl) (by kernel_rfl) (fun _ _ _ h => h) (Or.inl ⟨by rfl, fun w _ => by go_simp⟩) hS ?_
                try simp only [Act.put, List.getElem_toArray, List.getElem_cons_zero, List.getElem_cons_succ, List.setIfInBounds_toArray, List.set_cons_zero, List.set_cons_succ]
                refine wpAnyH_take (i := 5) (v := .int .i64 q) rfl (by kernel_rfl) (by kernel_rfl) (by kernel_rfl) (fun _ _ _ h => h) (Or.inl ⟨by rfl, fun w _ => by go_simp⟩) hS ?_
                try simp only [Act.put, List.getElem_toArray, List.getElem_cons_zero, List.getElem_cons_succ, List.setIfInBounds_toArray, List.set_cons_zero, List.set_cons_succ]
                refine wpAnyH_take (i := 6) (v := .pointer (some (pb.add (q * 4)))) rfl (by kernel_rfl) (by kernel_rfl) (by kernel_rfl) (fun _ _ _ h => h) (Or.inl ⟨by rfl, fun w _ => by go_simp⟩) hS ?_
                try simp only [Act.put, List.getElem_toArray, List.getElem_cons_zero, List.getElem_cons_succ, List.setIfInBounds_toArray, List.set_cons_zero, List.set_cons_succ]
                refine wpAnyH_take (i := 7) (v := .agg #[.int .u32 c.ep, .int .u32 c.num, .int .u64 c.off, .string c.txt]) rfl (by kernel_rfl) (by kernel_rfl) (by kernel_rfl) (fun _ _ _ h => h) (yields_any (by rfl) 65 (.tmp 150) rfl (pb.add (q * 4)) rfl c.cells _ (fun w h => h2 w h) Try.underlying65 rfl Ck.size65) hS ?_
                try simp only [Act.put, List.getElem_toArray, List.getElem_cons_zero, List.getElem_cons_succ, List.setIfInBounds_toArray, List.set_cons_zero, List.set_cons_succ]
                refine wpAnyH_take (i := 8) (v := .bool false) rfl (by kernel_rfl) (by kernel_rfl) (by kernel_rfl) (fun _ _ _ h => h) (Or.inl ⟨by rfl, fun w _ => by have e := heq w; go_simp⟩) hS ?_
                try simp only [Act.put, List.getElem_toArray, List.getElem_cons_zero, List.getElem_cons_succ, List.setIfInBounds_toArray, List.set_cons_zero, List.set_cons_succ]
                refine wpAnyH_done (by kernel_rfl) ?_ _
                go_wp2
                go_roundw
                case rel => exact ⟨q + 1, by omega, by go_num, hS⟩
                case measure => simp [intOf]; omega
              · obtain rfl : K = q := by omega
                have hqk' : ¬ (K : Int) < (K : Int) := by omega
                go_wp2_with (go_at_call 10; refine Calls.mono (HA.out _) ?_; clear HA; rintro ex wz ⟨rfl, hz⟩)
                go_ret
                have b5 := hb4.trans (hbq.mono hb4.size)
                exact ⟨rfl, b5.trans (hz.mono b5.size)⟩

set_option maxRecDepth 100000 in
theorem lifted (os : Os) (started : os.Started) (H : Type) (enc : TypeId × Value → H) :
    ReturnsInHanded {} Try.checked os 4 .any (Rows.logScansSpec.pre6 enc Try.prog Try.f4 Rows.logScansRow.domain false) (Rows.logScansSpec.post enc Try.prog Try.f4 false true false false) := by
  refine returnsInHanded_of_change_sized (C := Try.checked) own started (by kernel_rfl) Try.func4
    (ChangeSpec.witness6 (enc := enc) (C := Try.checked) false ⟨#[], #[.slice none 0 0, .int .i64 0, .int .i64 0, .int .u32 0, .int .u8 0], []⟩ 8 (by kernel_rfl) (by kernel_rfl) (by kernel_rfl) (by kernel_rfl)) ?_
  intro W base args ds gs before hval0 hW hcnd hsz0 _
  have hval : ∀ (j : Nat) t v, Try.f4.params[j]? = some t → args[j]? = some v → Value.okWide Try.prog W .any base t v := hval0
  have hW' := hW
  obtain ⟨p, q, hA0, hV, rfl, hfz, hnd⟩ := hW
  have hA : DataW.TrodAll enc Try.prog W 0 (fun _ => true) true Try.f4.params.toList args.toList ds p := hA0
  have hsz : (DataW.weightsEach Try.prog (Try.f4.params.toList ++ []) (ds ++ gs)).all (· ≤ reachBytes) = true := hsz0
  rw [Try.params4] at hA hval hsz
  obtain ⟨v0, vs0, d0, ds0, p0, q0, hargs, rfl, rfl, h0, r0⟩ := trodAll_cons hA
  obtain ⟨v1, vs1, d1, ds1, p1, q1, rfl, rfl, rfl, h1, r1⟩ := trodAll_cons r0
  obtain ⟨v2, vs2, d2, ds2, p2, q2, rfl, rfl, rfl, h2, r2⟩ := trodAll_cons r1
  obtain ⟨v3, vs3, d3, ds3, p3, q3, rfl, rfl, rfl, h3, r3⟩ := trodAll_cons r2
  obtain ⟨v4, vs4, d4, ds4, p4, q4, rfl, rfl, rfl, h4, r4⟩ := trodAll_cons r3
  obtain ⟨rfl, rfl, rfl⟩ := trodAll_nil r4
  obtain rfl : args = #[v0, v1, v2, v3, v4] := by cases args; simp_all
  obtain ⟨rfl, rfl⟩ := trodVars_none hV
  simp only [List.append_nil] at hsz
  have hlt : ∀ x ∈ (p0 ++ (p1 ++ (p2 ++ (p3 ++ (p4 ++ []))))), x.block < W.heap.size := fun x hx => hW'.lt x (by simpa using hx)
  have hw0 : (d0.weights Try.prog 60).all (· ≤ reachBytes) = true := List.all_eq_true.2 fun m hm => List.all_eq_true.1 hsz m (by simp [DataW.weightsEach, hm])
  have hw1 : (d1.weights Try.prog 3).all (· ≤ reachBytes) = true := List.all_eq_true.2 fun m hm => List.all_eq_true.1 hsz m (by simp [DataW.weightsEach, hm])
  have hw2 : (d2.weights Try.prog 3).all (· ≤ reachBytes) = true := List.all_eq_true.2 fun m hm => List.all_eq_true.1 hsz m (by simp [DataW.weightsEach, hm])
  have hw3 : (d3.weights Try.prog 24).all (· ≤ reachBytes) = true := List.all_eq_true.2 fun m hm => List.all_eq_true.1 hsz m (by simp [DataW.weightsEach, hm])
  have hw4 : (d4.weights Try.prog 5).all (· ≤ reachBytes) = true := List.all_eq_true.2 fun m hm => List.all_eq_true.1 hsz m (by simp [DataW.weightsEach, hm])
  have k0 := h0
  have k1 := h1
  have k2 := h2
  have k3 := h3
  have k4 := h4
  obtain ⟨a0, c0, w0⟩ := open_blocks (hval 0 60 v0 rfl rfl) h0 hw0
  obtain ⟨a1, rfl, rfl, rfl, w1⟩ := open_int Try.underlying3 (hval 1 3 v1 rfl rfl) h1
  obtain ⟨a2, rfl, rfl, rfl, w2⟩ := open_int Try.underlying3 (hval 2 3 v2 rfl rfl) h2
  obtain ⟨a3, rfl, rfl, rfl, w3⟩ := open_int Try.underlying24 (hval 3 24 v3 rfl rfl) h3
  obtain ⟨a4, rfl, rfl, rfl, w4⟩ := open_int Try.underlying5 (hval 4 5 v4 rfl rfl) h4
  clear hA0 hval0
  simp only [List.append_nil] at hW'
  refine (walk W v0 a0 c0 a1 a2 a3 a4 w0 w1 w2 w3 w4).mono fun e W' ⟨he, hg⟩ => ?_
  subst he
  exact ⟨_, rfl, ⟨_, _, _, [], (p0 ++ ([] ++ ([] ++ ([] ++ ([] ++ []))))), [], hW', (trodAll_cons_mk (shut_bool Try.underlying4 _) trodAll_mk0), (trodAll_cons_mk (Below.trod laidOut (by kernel_rfl) (of_decide_eq_true (by kernel_rfl)) k0 hg (fun x hx => hlt x (by simp [hx]))) (trodAll_cons_mk (Below.trod laidOut (by kernel_rfl) (of_decide_eq_true (by kernel_rfl)) k1 hg (fun x hx => (nomatch hx))) (trodAll_cons_mk (Below.trod laidOut (by kernel_rfl) (of_decide_eq_true (by kernel_rfl)) k2 hg (fun x hx => (nomatch hx))) (trodAll_cons_mk (Below.trod laidOut (by kernel_rfl) (of_decide_eq_true (by kernel_rfl)) k3 hg (fun x hx => (nomatch hx))) (trodAll_cons_mk (Below.trod laidOut (by kernel_rfl) (of_decide_eq_true (by kernel_rfl)) k4 hg (fun x hx => (nomatch hx))) trodAll_mk0))))), rfl,
    hg.frame _, fun h => by cases h⟩⟩

theorem over : Rows.logScansRow.holds Try.pinned (OpenSpec.ofChange Rows.logScansSpec) :=
  OpenClaim.holds_of_wide 4 Try.f4 rfl rfl rfl rfl rfl rfl rfl ⟨rfl, rfl, rfl, rfl, rfl⟩ rfl rfl rfl rfl rfl (by kernel_rfl) Try.func4 (by kernel_rfl)
    (of_decide_eq_true (by kernel_rfl)) (by unfold Func.isWrapper; first | (rw [if_pos (by decide +kernel)]; kernel_rfl) | (rw [if_neg (by decide +kernel)]; exact ⟨rfl, rfl⟩))
    (fun os started H enc _ => lifted os started H enc)

/-- The statement. -/
theorem proved : Rows.LogScansSaid :=
  over
#print axioms proved
end Go.Proofs.Ytgnedbagelhcbaa.logScans
