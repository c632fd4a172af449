/-
  CacheWal: no page is on the disk whose record isn't.
-/
import Derived.Test.YtehogiondcpbcaaJq36
import Derived.SizedLaws
import Derived.Deep.Grids
import Derived.Deep.Slices
import Derived.Lib.SmallJoins
import Derived.Carry
namespace Go.Proofs.Ytehogiondcpbcaa.cacheWal
open Go.ChangeShapes Go.WideShapes Go.ChangeAt Go.RowKit
open Go.Deep
set_option linter.unusedVariables false
set_option linter.unusedSimpArgs false
theorem own : ownKnob Try.prog.godebug = none := by kernel_rfl
set_option maxRecDepth 20000
theorem bound_u8 {i : Int} (h : (Lit.int .u8 i).wf = true) : 0 ≤ i ∧ i ≤ 255 := by
  have e : (Lit.int .u8 i).wf = (decide ((0 : Int) ≤ i) && decide (i ≤ 255)) := rfl
  rw [e] at h; simpa using h
theorem size36 : (Try.prog.info? 36).map (·.size) = some 229 := by kernel_rfl
theorem xo_size2 {w : World} {o : XO} (h : o.Ok w) : o.cells.toArray.size = 229 := xo_size h.p
set_option maxHeartbeats 8000000 in
theorem walk (w : World) (fr : Int) (v : Value) (cs : List XO) (hfr : (Lit.int .u8 fr).wf = true) (hcs : XOs w v cs) :
    Calls Try.prog 3 #[.int .u8 fr, v] w fun e w' => e = .returned (.bool true) ∧ Below w.heap.size w w' := by
  have hfb := bound_u8 hfr
  clear hfr
  obtain ⟨oa, cap, rfl, hlen, hel⟩ := hcs
  have HEL : Hid (∀ i, i < cs.length → ∃ (a : Addr) (c : XO), oa = some a ∧ cs[i]? = some c ∧ c.Ok w ∧ ∀ j u, c.cells[j]? = some u → w.cell? ((a.add (i * 229)).add j) = some u) := hel
  have HLEN : Hid (cs.length ≤ 140737488355328) := hlen
  clear hel
  obtain ⟨PP, HPP⟩ : ∃ PP : Ending → World → Prop, Hid (PP = fun e w' => e = .returned (.bool true) ∧ Below w.heap.size w w') := ⟨_, rfl⟩
  rw [← HPP.out]
  obtain ⟨n, hn⟩ : ∃ n : Nat, 4 + fr % 6 = (n : Int) := ⟨(4 + fr % 6).toNat, by omega⟩
  have hov := over_any n (by omega) w
  have HAW : Hid (∀ W, Calls Try.prog 14 #[] W fun e w' => e = .returned (.bool true) ∧ Below W.heap.size W w') := fun W => awake_any W
  have hw0 : IntKind.i64.wrap (fr % 6) = fr % 6 := by rw [IntKind.wrap_i64]; omega
  have hw1 : IntKind.i64.wrap (4 + fr % 6) = (n : Int) := by rw [IntKind.wrap_i64]; omega
  go_enter Try.func3, Try.ntmps3
  go_upto_region 5 with (first
    | (go_at_call 8; refine Calls.mono hov ?_; clear hov; rintro e W1 hq; obtain ⟨gd, gl, gc, gk, ak, F, he, sit⟩ := Sit.start hq; clear hq; obtain rfl := he))
  clear hw0 hw1 hfb hn
  go_loopw [8] (fun i wr => ∃ (k : Nat) (F : Nat → Prop) (s : Cs) (l : Lg) (d : Dsk) (last : Bool → Int → List Int), i = .int .i64 k ∧ k ≤ 80 ∧ Sit w F gc gd gl gk ak s l d k last wr) (fun i _ => 80 - (intOf i).toNat)
  case atStart => exact ⟨0, F, _, _, _, _, rfl, by omega, sit⟩
  case round =>
    clear sit
    obtain ⟨k, F, s, l, d, last, rfl, hk, sit⟩ := hrel
    by_cases hkX : k < cs.length
    · have hkX' : (k : Int) < (cs.length : Int) := by omega
      by_cases hk8 : k < 80
      · have hk8' : (k : Int) < 80 := by omega
        have hk0 : (0 : Int) ≤ (k : Int) := by omega
        have hwk : IntKind.i64.wrap ((k : Int) + 1) = ((k + 1 : Nat) : Int) := by rw [IntKind.wrap_i64]; omega
        obtain ⟨a, c, rfl, hcj, hcok, hcell⟩ := HEL.out k hkX
        have hcell2 : ∀ i u, c.cells[i]? = some u → wr.cell? ((a.add (k * 229)).add i) = some u := fun i u h => cell_keep (hcell i u h) sit.cs.1
        have hdo := sit.do_ (by omega) (hcok.keep sit.cs.1)
        have HCN : Hid (c.cells.length = 229) := by show _ = _; simp [XO.cells, hcok.p]
        have HK : Hid (k < 80) := hk8
        clear hcell hcj hcok sit
        have tl : Hid (1 = 1) := rfl
        go_upto_region 9 with (first
          | (have hh := tl; clear hh tl; refine wpList_load_any rfl 36 (.tmp 39) rfl _ rfl c.cells _ hcell2 Try.underlying36 rfl (by rw [size36, HCN.out]) ?_)
          | (have hh := hdo; clear hh; go_at_call 9; refine Calls.mono hdo ?_; clear hdo; rintro e W4 ⟨he, hst⟩; obtain rfl := he))
        clear hcell2 HCN
        obtain ⟨F', s', l', d', last', sit4, _, _⟩ := hst
        have HB4 : Hid (Below w.heap.size w W4) := sit4.cs.1
        go_loopw [9] (fun b wq => ∃ (q : Nat), q ≤ 9 ∧ b = .int .i64 (2 + q) ∧ Below W4.heap.size W4 wq) (fun i _ => 11 - (intOf i).toNat)
        case atStart => exact ⟨0, by omega, rfl, Below.refl _ _⟩
        case round =>
          rename World => wq
          obtain ⟨q, hq, rfl, hbq⟩ := hrel
          have hq0 : (0 : Int) ≤ 2 + (q : Int) := by omega
          by_cases hq9 : q < 9
          · have hq9' : 2 + (q : Int) < 11 := by omega
            have hwq : IntKind.i64.wrap (2 + (q : Int) + 1) = 2 + ((q + 1 : Nat) : Int) := by rw [IntKind.wrap_i64]; omega
            have sq := sit4.below hbq
            obtain ⟨hse, hl1, hl2, hl3, hl4⟩ := sq.seen (2 + q) (by omega)
            have hop : ∀ W, Calls Try.prog 10 #[.agg (bs (d'.seen (2 + q)))] W fun e w' => e = .returned (.tuple #[.int .u64 (Sl.stampAt (d'.seen (2 + q)) 0), .agg (bs (Sl.payN (d'.seen (2 + q)) 4)), .bool true]) ∧ Below W.heap.size W w' := fun W => open_whole hl1 hl2 hl3 W
            have hls : ∀ W, Calls Try.prog 12 #[.agg (bs (Sl.payN (d'.seen (2 + q)) 4))] W fun e w' => e = .returned (.int .u64 (lsnP (Sl.payN (d'.seen (2 + q)) 4))) ∧ Below W.heap.size W w' := fun W => lsn_any _ W (Sl.payN_length _ _)
            have HDU : Hid (∀ W, Below wq.heap.size wq W → Calls Try.prog 13 #[.pointer (some ⟨gl, 0, none⟩)] W fun e w' => e = .returned (.int .u64 l'.dur) ∧ Below W.heap.size W w') := fun W hb => (sq.below hb).dur
            have HPS : Hid ((bs (Sl.payN (d'.seen (2 + q)) 4)).size = 224) := by show _ = _; rw [bs_size]; exact Sl.payN_length _ _
            have hpo : (bs (Sl.payN (d'.seen (2 + q)) 4)).all (·.oneCell') = true := bs_one _
            generalize lsnP (Sl.payN (d'.seen (2 + q)) 4) = LV at hl4 hls
            generalize l'.dur = DV at hl4 HDU
            have hge : ¬ DV ≤ LV := by omega
            generalize Sl.stampAt (d'.seen (2 + q)) 0 = SV at hop
            generalize bs (Sl.payN (d'.seen (2 + q)) 4) = PQ at hop hls HPS hpo
            generalize bs (d'.seen (2 + q)) = BB at hop hse
            have HOP : Hid _ := hop
            have HLS : Hid _ := hls
            clear hop hls sq hl1 hl2 hl3
            have hz34 := zero34
            have HZP : Hid ((bs (zs 224)).size = 224) := by show _ = _; rw [bs_size]; exact zs_length _
            generalize bs (zs 224) = ZP at hz34 HZP
            have ts : Hid (1 = 1) := rfl
            have tl : Hid (1 = 1) := rfl
            go_upto_region 12 with (first
              | (have hh := hse; clear hh; go_at_call 11; refine Calls.mono hse ?_; clear hse; rintro e W5 ⟨he, hb5⟩; obtain rfl := he; have hop := HOP.out W5)
              | (have hh := hop; clear hh; go_at_call 10; refine Calls.mono hop ?_; clear hop; rintro e W6 ⟨he, hb6⟩; obtain rfl := he; have r6 : Row (W6.alloc (.cells ZP 34)) W6.heap.size ZP 34 := Row.new _ _ _)
              | (have hh := ts; clear hh ts; refine store_cells rfl 34 (.tmp 11) (.tmp 52) rfl W6.heap.size PQ rfl rfl 34 _ r6 224 size34 HZP.out HPS.out hpo ?_))
            have b6 : Below wq.heap.size wq W6 := hb5.trans (hb6.mono hb5.size)
            have b7 : Below wq.heap.size wq ((W6.alloc (.cells ZP 34)).setRow W6.heap.size PQ) := b6.trans ((below_setRow ((Below.refl _ _).alloc (Nat.le_refl _) _) (Nat.le_refl _) _).mono b6.size)
            have r7 := r6.set PQ
            clear r6 hb5 hb6 b6 hz34
            generalize (W6.alloc (.cells ZP 34)).setRow W6.heap.size PQ = W7 at b7 r7 ⊢
            generalize W6.heap.size = A11 at r7 ⊢
            have hls := HLS.out W7
            go_wp2_with (first
              | (have hh := tl; clear hh tl; refine load_cells_g (by rfl) 34 (.tmp 11) rfl A11 rfl 34 PQ r7 224 Try.underlying34 rfl size34 HPS.out ?_)
              | (have hh := hls; clear hh; go_at_call 12; refine Calls.mono hls ?_; clear hls; rintro e W8 ⟨he, hb8⟩; obtain rfl := he; have b8 := b7.trans (hb8.mono b7.size); have hdu := HDU.out W8 b8)
              | (have hh := hdu; clear hh; go_at_call 13; refine Calls.mono hdu ?_; clear hdu; rintro e W9 ⟨he, hb9⟩; obtain rfl := he; have b9 := b8.trans (hb9.mono b8.size)))
            go_roundw
            case rel => exact ⟨q + 1, by omega, by first | rfl | simp, hbq.trans (b9.mono hbq.size)⟩
            case measure => simp only [intOf]; omega
          · have hq9' : ¬ 2 + (q : Int) < 11 := by omega
            have sitq := sit4.below hbq
            go_wp2
            go_roundw
            case rel => exact ⟨k + 1, F', s', l', d', last', by first | rfl | simp, by have := HK.out; omega, sitq⟩
            case measure => have := HK.out; simp only [intOf]; omega
      · have hk8' : ¬ (k : Int) < 80 := by omega
        have haw := HAW.out wr
        go_wp2_with (go_at_call 14; refine Calls.mono haw ?_; clear haw; rintro e W5 ⟨he, hb⟩; obtain rfl := he)
        rw [HPP.out]
        exact ⟨rfl, sit.cs.1.trans (hb.mono sit.cs.1.size)⟩
    · have hkX' : ¬ (k : Int) < (cs.length : Int) := by omega
      have haw := HAW.out wr
      go_wp2_with (go_at_call 14; refine Calls.mono haw ?_; clear haw; rintro e W5 ⟨he, hb⟩; obtain rfl := he)
      rw [HPP.out]
      exact ⟨rfl, sit.cs.1.trans (hb.mono sit.cs.1.size)⟩
set_option maxRecDepth 100000 in
theorem lifted (os : Os) (started : os.Started) (H : Type) (enc : TypeId × Value → H) :
    ReturnsInHanded {} Try.checked os 3 .any (Rows.cacheWalSpec.pre6 enc Try.prog Try.f3 Rows.cacheWalRow.domain false) (Rows.cacheWalSpec.post enc Try.prog Try.f3 false true false false) := by
  refine returnsInHanded_of_change_sized (C := Try.checked) own started (by kernel_rfl) Try.func3
    (ChangeSpec.witness6 (enc := enc) (C := Try.checked) false ⟨#[], #[.int .u8 0, .slice none 0 0], []⟩ 8 (by kernel_rfl) (by kernel_rfl) (by kernel_rfl) (by kernel_rfl)) ?_
  intro W base args ds gs before hval0 hW hcnd hsz0 _
  have hval : ∀ (j : Nat) t v, Try.f3.params[j]? = some t → args[j]? = some v → Value.okWide Try.prog W .any base t v := hval0
  have hW' := hW
  obtain ⟨p, q, hA0, hV, rfl, hfz, hnd⟩ := hW
  have hA : DataW.TrodAll enc Try.prog W 0 (fun _ => true) true Try.f3.params.toList args.toList ds p := hA0
  have hsz : (DataW.weightsEach Try.prog (Try.f3.params.toList ++ []) (ds ++ gs)).all (· ≤ reachBytes) = true := hsz0
  rw [Try.params3] at hA hval hsz
  obtain ⟨v0, vs0, d0, ds0, p0, q0, hargs, rfl, rfl, h0, r0⟩ := trodAll_cons hA
  obtain ⟨v1, vs1, d1, ds1, p1, q1, rfl, rfl, rfl, h1, r1⟩ := trodAll_cons r0
  obtain ⟨rfl, rfl, rfl⟩ := trodAll_nil r1
  obtain rfl : args = #[v0, v1] := by cases args; simp_all
  obtain ⟨rfl, rfl⟩ := trodVars_none hV
  simp only [List.append_nil] at hsz
  have hlt : ∀ x ∈ (p0 ++ (p1 ++ [])), x.block < W.heap.size := fun x hx => hW'.lt x (by simpa using hx)
  have hw0 : (d0.weights Try.prog 5).all (· ≤ reachBytes) = true := List.all_eq_true.2 fun m hm => List.all_eq_true.1 hsz m (by simp [DataW.weightsEach, hm])
  have hw1 : (d1.weights Try.prog 22).all (· ≤ reachBytes) = true := List.all_eq_true.2 fun m hm => List.all_eq_true.1 hsz m (by simp [DataW.weightsEach, hm])
  have k0 := h0
  have k1 := h1
  obtain ⟨a0, rfl, rfl, rfl, w0⟩ := open_int Try.underlying5 (hval 0 5 v0 rfl rfl) h0
  obtain ⟨a1, w1⟩ := open_xos (hval 1 22 v1 rfl rfl) h1 hw1
  clear hA0 hval0
  simp only [List.append_nil] at hW'
  refine (walk W a0 v1 a1 w0 w1).mono fun e W' ⟨he, hg⟩ => ?_
  subst he
  exact ⟨_, rfl, ⟨_, _, _, [], ([] ++ (p1 ++ [])), [], hW', (trodAll_cons_mk (shut_bool Try.underlying4 _) trodAll_mk0), (trodAll_cons_mk (Below.trod laidOut (by kernel_rfl) (of_decide_eq_true (by kernel_rfl)) k0 hg (fun x hx => (nomatch hx))) (trodAll_cons_mk (Below.trod laidOut (by kernel_rfl) (of_decide_eq_true (by kernel_rfl)) k1 hg (fun x hx => hlt x (by simp [hx]))) trodAll_mk0)), rfl,
    hg.frame _, fun h => by cases h⟩⟩
theorem over : Rows.cacheWalRow.holds Try.pinned (OpenSpec.ofChange Rows.cacheWalSpec) :=
  OpenClaim.holds_of_wide 3 Try.f3 rfl rfl rfl rfl rfl rfl rfl ⟨rfl, rfl, rfl, rfl, rfl⟩ rfl rfl rfl rfl rfl (by kernel_rfl) Try.func3 (by kernel_rfl)
    (of_decide_eq_true (by kernel_rfl)) (by unfold Func.isWrapper; first | (rw [if_pos (by decide +kernel)]; kernel_rfl) | (rw [if_neg (by decide +kernel)]; exact ⟨rfl, rfl⟩))
    (fun os started H enc _ => lifted os started H enc)
theorem proved : Rows.CacheWalSaid :=
  over
#print axioms proved
end Go.Proofs.Ytehogiondcpbcaa.cacheWal
