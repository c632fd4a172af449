/-
  CachePins: a page that is held is not given up, and is held as often as it was fetched.
-/
import Derived.Test.YtehogiondcpbcaaJq36
import Derived.SizedLaws
import Derived.Deep.Grids
import Derived.Deep.Slices
import Derived.Lib.SmallJoins
import Derived.Carry
import Derived.BigQuiet
import Derived.Deep.CutRange
import Derived.Deep.CutBlock
namespace Go.Proofs.Ytehogiondcpbcaa.cachePins
open Go.ChangeShapes Go.WideShapes Go.ChangeAt Go.RowKit
open Go.Deep
set_option linter.unusedVariables false
set_option linter.unusedSimpArgs false
theorem own : ownKnob Try.prog.godebug = none := by kernel_rfl
set_option maxRecDepth 20000
theorem bound_u8 {i : Int} (h : (Lit.int .u8 i).wf = true) : 0 ≤ i ∧ i ≤ 255 := by
  have e : (Lit.int .u8 i).wf = (decide ((0 : Int) ≤ i) && decide (i ≤ 255)) := rfl
  rw [e] at h; simpa using h
theorem size36 : (Try.prog.info? 36).map (·.size) = some 229 := by kernel_rfl
def XO.zero : XO := ⟨0, false, 0, 0, .slice none 0 0, [], zs 224⟩
theorem zero36 (w : World) : (zeroValue 36).run Try.prog w = .ok (.agg XO.zero.cells.toArray) w := (zero_of_info (P := Try.prog) (t := 36) (v := .agg XO.zero.cells.toArray) (n := 229) (by kernel_rfl)).1 w
theorem zero58 (w : World) : (zeroValue 58).run Try.prog w = .ok (.agg (nI (zs 16))) w := (zero_of_info (P := Try.prog) (t := 58) (v := .agg (nI (zs 16))) (n := 16) (by kernel_rfl)).1 w
theorem built31b (u : Bool) (no : Int) : (Try.prog.built 31 [(0, .bool u), (1, .int .u16 no)]) = some #[.bool u, .int .u16 no] := by kernel_rfl
theorem cntQ_bd (P : Nat → Bool) : ∀ m, cntQ P m ≤ m
  | 0 => Nat.le_refl _
  | m + 1 => by
    have := cntQ_bd P m
    show cntQ P m + _ ≤ m + 1
    split <;> omega
theorem zero31p (w : World) : (zeroValue 31).run Try.prog w = .ok (.agg #[.bool false, .int .u16 0]) w := zero31 w
theorem held_new (fr : Nat) : Held (newC 4 5 fr) (zs 16) := ⟨zs_length _, fun q j hq hj => by
  rw [(new_pins fr).2]
  unfold zs
  rw [List.getElem?_replicate, if_pos (by omega)]⟩
set_option maxHeartbeats 8000000 in
theorem walk (w : World) (fr : Int) (v : Value) (cs : List XO) (hfr : (Lit.int .u8 fr).wf = true) (hcs : XOs w v cs) :
    Calls Try.prog 5 #[.int .u8 fr, v] w fun e w' => e = .returned (.bool true) ∧ Below w.heap.size w w' := by
  have hfb := bound_u8 hfr
  clear hfr
  obtain ⟨oa, cap, rfl, hlen, hel⟩ := hcs
  have HEL : Hid (∀ i, i < cs.length → ∃ (a : Addr) (c : XO), oa = some a ∧ cs[i]? = some c ∧ c.Ok w ∧ ∀ j u, c.cells[j]? = some u → w.cell? ((a.add (i * 229)).add j) = some u) := hel
  have HLEN : Hid (cs.length ≤ 140737488355328) := hlen
  clear hel
  obtain ⟨PP, HPP⟩ : ∃ PP : Ending → World → Prop, Hid (PP = fun e w' => e = .returned (.bool true) ∧ Below w.heap.size w w') := ⟨_, rfl⟩
  rw [← HPP.out]
  obtain ⟨n, hn⟩ : ∃ n : Nat, 4 + fr % 6 = (n : Int) := ⟨(4 + fr % 6).toNat, by omega⟩
  have hov := over_any n (by omega) w
  have HAW : Hid (∀ W, Calls Try.prog 14 #[] W fun e w' => e = .returned (.bool true) ∧ Below W.heap.size W w') := fun W => awake_any W
  have hw0 : IntKind.i64.wrap (fr % 6) = fr % 6 := by rw [IntKind.wrap_i64]; omega
  have hw1 : IntKind.i64.wrap (4 + fr % 6) = (n : Int) := by rw [IntKind.wrap_i64]; omega
  have hz58 := zero58
  go_enter Try.func5, Try.ntmps5
  go_upto_region 7 with (first
    | (go_at_call 8; refine Calls.mono hov ?_; clear hov; rintro e W1 hq; obtain ⟨gd, gl, gc, gk, ak, F, he, sit⟩ := Sit.start hq; clear hq; obtain rfl := he))
  have tb : CLoc F (W1.alloc (.cells (nI (zs 16)) 58)) W1.heap.size (nI (zs 16)) 58 := ⟨Row.new _ _ _, fun q => by have := sit.cs.2.1.lt _ q; omega⟩
  have pit : Pit w F gc gd gl gk ak (newC 4 5 n) log0 (Dsk.new 60) 0 (W1.alloc (.cells (nI (zs 16)) 58)) := ⟨⟨_, sit.below ((Below.refl _ _).alloc (Nat.le_refl _) _)⟩, (new_pins n).1⟩
  have HA9 : Hid (w.heap.size ≤ W1.heap.size) := sit.cs.1.size
  clear hw0 hw1 hfb hn hz58 sit
  generalize W1.alloc (.cells (nI (zs 16)) 58) = W2 at tb pit ⊢
  generalize W1.heap.size = A9 at tb HA9 ⊢
  have hh0 := held_new n
  go_loopw [10] (fun i wr => ∃ (k kc : Nat) (F : Nat → Prop) (s : Cs) (l : Lg) (d : Dsk) (H : List Int), i = .int .i64 k ∧ k ≤ 80 ∧ kc ≤ k ∧ Pit w F gc gd gl gk ak s l d kc wr ∧ CLoc F wr A9 (nI H) 58 ∧ Held s H ∧ s.most = n) (fun i _ => 80 - (intOf i).toNat)
  case atStart => exact ⟨0, 0, F, _, _, _, zs 16, rfl, by omega, by omega, pit, tb, hh0, rfl⟩
  case round =>
    clear pit tb hh0
    obtain ⟨k, kc, F, s, l, d, H, rfl, hk, hkc, pit, tb, hhd, hmo⟩ := hrel
    by_cases hkX : k < cs.length
    · have hkX' : (k : Int) < (cs.length : Int) := by omega
      by_cases hk8 : k < 80
      · have hk8' : (k : Int) < 80 := by omega
        have hk0 : (0 : Int) ≤ (k : Int) := by omega
        have hwk : IntKind.i64.wrap ((k : Int) + 1) = ((k + 1 : Nat) : Int) := by rw [IntKind.wrap_i64]; omega
        obtain ⟨a, c, rfl, hcj, hcok, hcell⟩ := HEL.out k hkX
        have hcell2 : ∀ i u, c.cells[i]? = some u → wr.cell? ((a.add (k * 229)).add i) = some u := fun i u h => cell_keep (hcell i u h) pit.bel
        obtain ⟨kd, u, no, b, fz, zl, pp⟩ := c
        have hnb : 0 ≤ no ∧ no ≤ 65535 := hcok.k
        obtain ⟨un, HUN, rfl⟩ : ∃ un : Nat, Hid (un < 2) ∧ u = decide (un = 1) := by
          cases u
          · exact ⟨0, (show 0 < 2 by omega), rfl⟩
          · exact ⟨1, (show 1 < 2 by omega), rfl⟩
        obtain ⟨kn, hkn⟩ : ∃ kn : Nat, no % 8 = (kn : Int) := ⟨(no % 8).toNat, by omega⟩
        have HKN : Hid (kn < 8) := by show kn < 8; omega
        have HCN : Hid ((XO.cells ⟨kd, (decide (un = 1)), no, b, fz, zl, pp⟩).length = 229) := by show _ = _; simp [XO.cells, hcok.p]
        have HCK : Hid (∀ W, Below wr.heap.size wr W → XO.Ok W ⟨kd, (decide (un = 1)), (kn : Int), b, fz, zl, pp⟩) := fun W hb => { (hcok.keep pit.bel).keep hb with k := by have := HKN.out; show 0 ≤ (kn : Int) ∧ (kn : Int) ≤ 65535; omega }
        have hone := xo_one hcok
        obtain ⟨OA, HOA⟩ : ∃ OA, Hid ((XO.cells ⟨kd, (decide (un = 1)), no, b, fz, zl, pp⟩).toArray = OA) := ⟨_, rfl⟩
        obtain ⟨OB, HOB⟩ : ∃ OB, Hid ((XO.cells ⟨kd, (decide (un = 1)), (kn : Int), b, fz, zl, pp⟩).toArray = OB) := ⟨_, rfl⟩
        have HAB : Hid (OA.setIfInBounds 2 (.int .u16 (kn : Int)) = OB) := by show _ = _; rw [← HOA.out, ← HOB.out]; rfl
        have HOS0 : Hid (OA.size = 229) := by rw [← HOA.out]; exact HCN.out
        have HOS : Hid (OB.size = 229) := by rw [← HAB.out, Array.size_setIfInBounds]; exact HOS0.out
        have HA2 : Hid (OA[2]? = some (.int .u16 no)) := by rw [← HOA.out]; rfl
        have HC0 : Hid (OB[0]? = some (.int .i64 kd)) := by rw [← HOB.out]; rfl
        have HC1 : Hid (OB[1]? = some (.bool (decide (un = 1)))) := by rw [← HOB.out]; rfl
        have HC2 : Hid (OB[2]? = some (.int .u16 (kn : Int))) := by rw [← HOB.out]; rfl
        rw [HOA.out] at hone
        have hz36 := zero36
        have HZX : Hid (XO.zero.cells.toArray.size = 229) := rfl
        generalize XO.zero.cells.toArray = ZX at hz36 HZX
        have rn : Row (wr.alloc (.cells ZX 36)) wr.heap.size ZX 36 := Row.new _ _ _
        have b3 : Below wr.heap.size wr ((wr.alloc (.cells ZX 36)).setRow wr.heap.size OA) := below_setRow ((Below.refl _ _).alloc (Nat.le_refl _) _) (Nat.le_refl _) _
        have rA : Row ((wr.alloc (.cells ZX 36)).setRow wr.heap.size OA) wr.heap.size OA 36 := rn.set _
        have hXF : ¬ F wr.heap.size := fun q => by have := pit.lt _ q; omega
        have HK : Hid (k < 80) := hk8
        have HWX : Hid (w.heap.size ≤ wr.heap.size) := pit.bel.size
        have HKC : Hid (kc ≤ k) := hkc
        have HXA : Hid (A9 ≠ wr.heap.size) := fun q => by have := tb.1.lt; omega
        have tl : Hid (1 = 1) := rfl
        have ts : Hid (1 = 1) := rfl
        go_upto_region 10 with (first
          | (have hh := tl; clear hh tl; refine wpList_load_any rfl 36 (.tmp 42) rfl _ rfl (XO.cells ⟨kd, (decide (un = 1)), no, b, fz, zl, pp⟩) _ hcell2 Try.underlying36 rfl (by rw [size36, HCN.out]) ?_; rw [HOA.out])
          | (have hh := ts; clear hh ts; refine store_cells rfl 36 (.tmp 11) (.tmp 43) rfl wr.heap.size OA rfl rfl 36 _ rn 229 size36 HZX.out HOS0.out hone ?_))
        have pit2 := pit.below b3
        have tb2 := tb.below b3
        clear rn hcell2 hz36 HZX hcell hcj hcok pit tb
        generalize (wr.alloc (.cells ZX 36)).setRow wr.heap.size OA = W2 at b3 rA pit2 tb2 ⊢
        have q2 := row_at rA 2 _ HA2.out
        have z2 := row_frozen rA 2
        go_upto_region 11 with fail
        rw [hkn]
        have O3 : Off (· = wr.heap.size) W2 (W2.setCell ⟨wr.heap.size, 2, none⟩ (.int .u16 (kn : Int))) := Off.of_setCell (F := (· = wr.heap.size)) _ _ _ rfl
        have HB3 : Hid (Below wr.heap.size wr (W2.setCell ⟨wr.heap.size, 2, none⟩ (.int .u16 (kn : Int)))) := Below.trans b3 (O3.below b3.size fun j q => by rw [q]; exact Nat.le_refl _)
        have lX : CLoc F (W2.setCell ⟨wr.heap.size, 2, none⟩ (.int .u16 (kn : Int))) wr.heap.size OB 36 := ⟨by rw [← HAB.out]; exact row_set rA _ _, hXF⟩
        have tb3 : CLoc F (W2.setCell ⟨wr.heap.size, 2, none⟩ (.int .u16 (kn : Int))) A9 (nI H) 58 := ⟨tb2.1.off O3 HXA.out, tb2.2⟩
        have pit3 := pit2.idle HWX.out hXF O3
        clear q2 z2 b3 rA pit2 tb2 O3 hXF
        generalize W2.setCell ⟨wr.heap.size, 2, none⟩ (.int .u16 (kn : Int)) = W3 at HB3 lX tb3 pit3 ⊢
        generalize HX0 : wr.heap.size = X at lX HXA ⊢
        have HLX : Hid (CLoc F W3 X OB 36) := lX
        have HPI : Hid _ := pit3
        have HTB : Hid (CLoc F W3 A9 (nI H) 58) := tb3
        have HHD : Hid (Held s H) := hhd
        have HMO : Hid (s.most = n) := hmo
        obtain ⟨hv, HHP⟩ : ∃ hv, Hid (pinsC s (decide (un = 1)) (kn : Int) = hv) := ⟨_, rfl⟩
        have HHV : Hid (H[un * 8 + kn]? = some hv) := by rw [← HHP.out]; exact hhd.2 un kn HUN.out HKN.out
        have hvb : 0 ≤ hv ∧ hv ≤ 80 := by have := pit3.bound (decide (un = 1)) (kn : Int); rw [HHP.out] at this; omega
        have hu0 : (0 : Int) ≤ (un : Int) := by omega
        have hu2 : (un : Int) < 2 := by have := HUN.out; omega
        have hn0 : (0 : Int) ≤ (kn : Int) := by omega
        have hn8 : (kn : Int) < 8 := by have := HKN.out; omega
        have q0 := row_at lX.1 0 _ HC0.out
        have q2 := row_at lX.1 2 _ HC2.out
        have HQI : Hid (∀ W, Row W X OB 36 → ∀ j v, ([.bool (decide (un = 1)), .int .u16 (kn : Int)] : List Value)[j]? = some v → W.cell? ((⟨X, 1, none⟩ : Addr).add j) = some v) := fun W h j v hj => by
          rw [Addr.add_mid]
          have hj2 : j < 2 := (List.getElem?_eq_some_iff.1 hj).1
          refine row_at h (1 + j) _ ?_
          match j, hj2, hj with
          | 0, _, hj => simpa using HC1.out.trans hj
          | 1, _, hj => simpa using HC2.out.trans hj
        have qi := HQI.out W3 lX.1
        clear lX pit3 tb3 hhd hone hkn hnb hmo HEL
        go_upto_block 2 with fail
        go_cut [12, 13] from 30 to 142 (fun _ _ wx => ∃ (kc' : Nat) (F' : Nat → Prop) (s' : Cs) (l' : Lg) (d' : Dsk) (H' : List Int), kc' ≤ k + 1 ∧ Pit w F' gc gd gl gk ak s' l' d' kc' wx ∧ CLoc F' wx A9 (nI H') 58 ∧ Held s' H' ∧ s'.most = n)
        case first =>
          by_cases hkd : kd = 0
          · subst hkd
            have hfe := Pit.fetch HPI.out (by have := HKC.out; have := HK.out; omega) (decide (un = 1)) (j := (kn : Int)) (by omega)
            have tl : Hid (1 = 1) := rfl
            have ts : Hid (1 = 1) := rfl
            have hz34 := zero34
            have HZP : Hid ((bs (zs 224)).size = 224) := by show _ = _; rw [bs_size]; exact zs_length _
            generalize bs (zs 224) = ZP at hz34 HZP
            go_upto_region 15 with (first
              | (have hh := tl; clear hh tl; refine wpList_load_any rfl 31 (.tmp 61) rfl ⟨X, 1, none⟩ rfl [.bool (decide (un = 1)), .int .u16 (kn : Int)] _ qi Try.underlying31 rfl (by rw [size31]; rfl) ?_)
              | (have hh := hfe; clear hh; go_at_call 16; refine Calls.mono hfe ?_; clear hfe; rintro e W4 ⟨p, E, F5, s5, l5, d5, he, hpl, pit4, tr4, hm5, hE⟩; obtain rfl := he; have HPS : Hid ((bs p).size = 224) := (by show _ = _; rw [bs_size]; exact hpl); have l14 : CLoc F5 (W4.alloc (.cells ZP 34)) W4.heap.size ZP 34 := ⟨Row.new _ _ _, fun q => by have := pit4.lt _ q; omega⟩)
              | (have hh := ts; clear hh ts; refine store_cells rfl 34 (.tmp 12) (.tmp 64) rfl W4.heap.size (bs p) rfl rfl 34 _ l14.1 224 size34 HZP.out HPS.out (bs_one _) ?_))
            have ba : Below W4.heap.size W4 ((W4.alloc (.cells ZP 34)).setRow W4.heap.size (bs p)) := below_setRow ((Below.refl _ _).alloc (Nat.le_refl _) _) (Nat.le_refl _) _
            have lX5 := (HLX.out.tr tr4).below ba
            have tb5 := (HTB.out.tr tr4).below ba
            have pit5 := pit4.below ba
            have HM5 : Hid (s5.most = n) := hm5.trans HMO.out
            clear ba pit4 tr4 l14 hz34 HZP hm5 qi q0 q2
            generalize (W4.alloc (.cells ZP 34)).setRow W4.heap.size (bs p) = W5 at pit5 tb5 lX5 ⊢
            by_cases hE0 : E = 0
            · subst hE0
              have HE5 : Hid (∀ u' k', pinsC s5 u' k' = if u' = (decide (un = 1)) ∧ k' = (kn : Int) then hv + 1 else pinsC s u' k') := fun u' k' => by
                have := hE u' k'
                simp only [true_and] at this
                rw [HHP.out] at this; exact this
              have hwv : IntKind.i64.wrap (hv + 1) = hv + 1 := by rw [IntKind.wrap_i64]; omega
              clear hE
              go_upto_region 16 with fail
              refine wp_region_held_drew (S := fun W => Row W X OB 36) (by kernel_rfl) lX5.1 fun hS => ?_
              have pit6 := pit5.below (below_drew W5)
              have tb6 := tb5.below (below_drew W5)
              have lX6 := lX5.below (below_drew W5)
              clear pit5 tb5 lX5
              generalize W5.drew = W6 at hS pit6 tb6 lX6 ⊢
              refine tkH (i := 0) (v := .pointer (some ⟨X, 1, none⟩)) rfl (by kernel_rfl) (fun _ _ _ h => h) (Or.inl ⟨by rfl, fun w _ => by go_simp⟩) hS ?_
              try simp only [Act.put, nz]
              refine tkH (i := 1) (v := .agg #[.bool (decide (un = 1)), .int .u16 (kn : Int)]) rfl (by kernel_rfl) (fun _ _ _ h => h) (yields_any (by rfl) 31 (.tmp 68) rfl ⟨X, 1, none⟩ rfl [.bool (decide (un = 1)), .int .u16 (kn : Int)] _ (fun w h => HQI.out w (h)) Try.underlying31 rfl (by rw [size31]; rfl)) hS ?_
              try simp only [Act.put, nz]
              refine tkH (i := 3) (v := .pointer (some ⟨X, 1, none⟩)) rfl (by kernel_rfl) (fun _ _ _ h => h) (Or.inl ⟨by rfl, fun w _ => by go_simp⟩) hS ?_
              try simp only [Act.put, nz]
              refine tkH (i := 4) (v := .pointer (some ⟨X, 2, none⟩)) rfl (by kernel_rfl) (fun _ _ _ h => h) (Or.inl ⟨by rfl, fun w _ => by go_simp⟩) hS ?_
              try simp only [Act.put, nz]
              refine tkH (i := 5) (v := .int .u16 kn) rfl (by kernel_rfl) (fun _ _ _ h => h) (Or.inl ⟨by rfl, fun w h => by have c := row_at (h) 2 _ HC2.out; go_simp⟩) hS ?_
              try simp only [Act.put, nz]
              refine wpAnyH_ready (rs := [2]) (by kernel_rfl) (by simp) ?_
              refine (AllReadyH.cons rfl (fun K hK => ?_) AllReadyH.nil)
              have hsd := side_any un HUN.out (kn : Int) W6
              go_simp
              go_at_call 20
              refine Calls.mono hsd ?_
              clear hsd
              rintro e W7 ⟨he, hb7⟩
              obtain rfl := he
              have pit7 := pit6.below hb7
              have tb7 := tb6.below hb7
              have lX7 := lX6.below hb7
              refine hK.out _ _ lX7.1 fun hS => ?_
              try simp only [Act.put, nz]
              clear pit6 tb6 lX6 hb7
              refine tkH (i := 6) (v := .pointer (some ⟨A9, un * 8, none⟩)) rfl (by kernel_rfl) (fun _ _ _ h => h) (Or.inl ⟨by rfl, fun w _ => by go_simp⟩) hS ?_
              try simp only [Act.put, nz]
              refine tkH (i := 7) (v := .pointer (some ⟨A9, un * 8 + kn, none⟩)) rfl (by kernel_rfl) (fun _ _ _ h => h) (Or.inl ⟨by rfl, fun w _ => by go_simp⟩) hS ?_
              try simp only [Act.put, nz]
              refine tkH (i := 10) (v := .pointer (some ⟨A9, un * 8, none⟩)) rfl (by kernel_rfl) (fun _ _ _ h => h) (Or.inl ⟨by rfl, fun w _ => by go_simp⟩) hS ?_
              try simp only [Act.put, nz]
              refine wpAnyH_ready (rs := [8]) (by kernel_rfl) (by simp) ?_
              refine (AllReadyH.cons rfl (fun K hK => ?_) AllReadyH.nil)
              have c8 : W7.cell? ⟨A9, un * 8 + kn, none⟩ = some (.int .i64 hv) := row_at tb7.1 _ _ (nI_at HHV.out)
              have z8 : W7.frozen? ⟨A9, un * 8 + kn, none⟩ = false := row_frozen tb7.1 _
              go_simp
              refine hK.out _ _ hS fun hS => ?_
              try simp only [Act.put, nz]
              refine tkH (i := 9) (v := .int .i64 (hv + 1)) rfl (by kernel_rfl) (fun _ _ _ h => h) (Or.inl ⟨by rfl, fun w _ => by go_simp⟩) hS ?_
              try simp only [Act.put, nz]
              refine tkH (i := 11) (v := .pointer (some ⟨A9, un * 8 + kn, none⟩)) rfl (by kernel_rfl) (fun _ _ _ h => h) (Or.inl ⟨by rfl, fun w _ => by go_simp⟩) hS ?_
              try simp only [Act.put, nz]
              refine wpAnyH_ready (rs := [12]) (by kernel_rfl) (by simp) ?_
              refine (AllReadyH.cons rfl (fun K hK => ?_) AllReadyH.nil)
              have O8 : Off (· = A9) W7 (W7.setCell ⟨A9, un * 8 + kn, none⟩ (.int .i64 (hv + 1))) := Off.of_setCell (F := (· = A9)) _ _ _ rfl
              have pit8 := pit7.idle HA9.out tb7.2 O8
              have tb8 : CLoc F5 (W7.setCell ⟨A9, un * 8 + kn, none⟩ (.int .i64 (hv + 1))) A9 (nI (H.set (un * 8 + kn) (hv + 1))) 58 := ⟨by rw [← nI_set]; exact row_set tb7.1 _ _, tb7.2⟩
              have lX8 : Row (W7.setCell ⟨A9, un * 8 + kn, none⟩ (.int .i64 (hv + 1))) X OB 36 := lX7.1.off O8 (fun q => HXA.out q.symm)
              have hh8 : Held s5 (H.set (un * 8 + kn) (hv + 1)) := HHD.out.set HUN.out HKN.out (x := (hv + 1)) HE5.out
              go_simp
              refine hK.out _ _ lX8 fun hS => ?_
              try simp only [Act.put, nz]
              refine wpAnyH_done (by kernel_rfl) ?_ _
              clear c8 z8 pit7 tb7 lX7 lX8 O8 hS
              generalize W7.setCell ⟨A9, un * 8 + kn, none⟩ (.int .i64 (hv + 1)) = W8 at pit8 tb8 ⊢
              go_wp2
              go_meet
              case rel => exact ⟨kc + 1, _, _, _, _, _, by have := HKC.out; omega, pit8, tb8, hh8, HM5.out⟩
            · have hEb : (E == 0) = false := by simpa using hE0
              have hh5 : Held s5 H := HHD.out.to fun u' k' => by
                have := hE u' k'
                rw [if_neg (fun q => hE0 q.1)] at this; exact this
              clear hE
              go_wp2
              go_meet
              case rel => exact ⟨kc + 1, _, _, _, _, _, by have := HKC.out; omega, pit5, tb5, hh5, HM5.out⟩
          · by_cases hkd1 : kd = 1
            · subst hkd1
              have hup := Pit.unpin HPI.out (by have := HKC.out; have := HK.out; omega) (decide (un = 1)) (j := (kn : Int)) (by omega)
              have tl : Hid (1 = 1) := rfl
              go_upto_region 18 with fail
              by_cases hE0 : unpinE s (decide (un = 1)) (kn : Int) = 0
              · rw [hE0] at hup
                have hne : pinsC s (decide (un = 1)) (kn : Int) ≠ 0 := fun q => by unfold unpinE at hE0; rw [if_pos q] at hE0; cases hE0
                rw [HHP.out] at hne
                go_upto_region 19 with (first
                  | (have hh := tl; clear hh tl; refine wpList_load_any rfl 31 (.tmp 83) rfl ⟨X, 1, none⟩ rfl [.bool (decide (un = 1)), .int .u16 (kn : Int)] _ qi Try.underlying31 rfl (by rw [size31]; rfl) ?_)
                  | (have hh := hup; clear hh; go_at_call 21; refine Calls.mono hup ?_; clear hup; rintro e W5 ⟨he, F5, s5, pit5, tr5, hm5, hE⟩; obtain rfl := he))
                have lX5 := HLX.out.tr tr5
                have tb5 := HTB.out.tr tr5
                have HM5 : Hid (s5.most = n) := hm5.trans HMO.out
                have HE5 : Hid (∀ u' k', pinsC s5 u' k' = if u' = (decide (un = 1)) ∧ k' = (kn : Int) then hv - 1 else pinsC s u' k') := fun u' k' => by
                  have := hE u' k'
                  simp only [true_and] at this
                  rw [HHP.out] at this; exact this
                have hwv : IntKind.i64.wrap (hv - 1) = hv - 1 := by rw [IntKind.wrap_i64]; omega
                clear hE tr5 hm5 qi q0 q2
                refine wp_region_held_drew (S := fun W => Row W X OB 36) (by kernel_rfl) lX5.1 fun hS => ?_
                have pit6 := pit5.below (below_drew W5)
                have tb6 := tb5.below (below_drew W5)
                have lX6 := lX5.below (below_drew W5)
                clear pit5 tb5 lX5
                generalize W5.drew = W6 at hS pit6 tb6 lX6 ⊢
                refine tkH (i := 0) (v := .pointer (some ⟨X, 1, none⟩)) rfl (by kernel_rfl) (fun _ _ _ h => h) (Or.inl ⟨by rfl, fun w _ => by go_simp⟩) hS ?_
                try simp only [Act.put, nz]
                refine tkH (i := 1) (v := .agg #[.bool (decide (un = 1)), .int .u16 (kn : Int)]) rfl (by kernel_rfl) (fun _ _ _ h => h) (yields_any (by rfl) 31 (.tmp 87) rfl ⟨X, 1, none⟩ rfl [.bool (decide (un = 1)), .int .u16 (kn : Int)] _ (fun w h => HQI.out w (h)) Try.underlying31 rfl (by rw [size31]; rfl)) hS ?_
                try simp only [Act.put, nz]
                refine tkH (i := 3) (v := .pointer (some ⟨X, 1, none⟩)) rfl (by kernel_rfl) (fun _ _ _ h => h) (Or.inl ⟨by rfl, fun w _ => by go_simp⟩) hS ?_
                try simp only [Act.put, nz]
                refine tkH (i := 4) (v := .pointer (some ⟨X, 2, none⟩)) rfl (by kernel_rfl) (fun _ _ _ h => h) (Or.inl ⟨by rfl, fun w _ => by go_simp⟩) hS ?_
                try simp only [Act.put, nz]
                refine tkH (i := 5) (v := .int .u16 kn) rfl (by kernel_rfl) (fun _ _ _ h => h) (Or.inl ⟨by rfl, fun w h => by have c := row_at (h) 2 _ HC2.out; go_simp⟩) hS ?_
                try simp only [Act.put, nz]
                refine wpAnyH_ready (rs := [2]) (by kernel_rfl) (by simp) ?_
                refine (AllReadyH.cons rfl (fun K hK => ?_) AllReadyH.nil)
                have hsd := side_any un HUN.out (kn : Int) W6
                go_simp
                go_at_call 20
                refine Calls.mono hsd ?_
                clear hsd
                rintro e W7 ⟨he, hb7⟩
                obtain rfl := he
                have pit7 := pit6.below hb7
                have tb7 := tb6.below hb7
                have lX7 := lX6.below hb7
                refine hK.out _ _ lX7.1 fun hS => ?_
                try simp only [Act.put, nz]
                clear pit6 tb6 lX6 hb7
                refine tkH (i := 6) (v := .pointer (some ⟨A9, un * 8, none⟩)) rfl (by kernel_rfl) (fun _ _ _ h => h) (Or.inl ⟨by rfl, fun w _ => by go_simp⟩) hS ?_
                try simp only [Act.put, nz]
                refine tkH (i := 7) (v := .pointer (some ⟨A9, un * 8 + kn, none⟩)) rfl (by kernel_rfl) (fun _ _ _ h => h) (Or.inl ⟨by rfl, fun w _ => by go_simp⟩) hS ?_
                try simp only [Act.put, nz]
                refine tkH (i := 10) (v := .pointer (some ⟨A9, un * 8, none⟩)) rfl (by kernel_rfl) (fun _ _ _ h => h) (Or.inl ⟨by rfl, fun w _ => by go_simp⟩) hS ?_
                try simp only [Act.put, nz]
                refine wpAnyH_ready (rs := [8]) (by kernel_rfl) (by simp) ?_
                refine (AllReadyH.cons rfl (fun K hK => ?_) AllReadyH.nil)
                have c8 : W7.cell? ⟨A9, un * 8 + kn, none⟩ = some (.int .i64 hv) := row_at tb7.1 _ _ (nI_at HHV.out)
                have z8 : W7.frozen? ⟨A9, un * 8 + kn, none⟩ = false := row_frozen tb7.1 _
                go_simp
                refine hK.out _ _ hS fun hS => ?_
                try simp only [Act.put, nz]
                refine tkH (i := 9) (v := .int .i64 (hv - 1)) rfl (by kernel_rfl) (fun _ _ _ h => h) (Or.inl ⟨by rfl, fun w _ => by go_simp⟩) hS ?_
                try simp only [Act.put, nz]
                refine tkH (i := 11) (v := .pointer (some ⟨A9, un * 8 + kn, none⟩)) rfl (by kernel_rfl) (fun _ _ _ h => h) (Or.inl ⟨by rfl, fun w _ => by go_simp⟩) hS ?_
                try simp only [Act.put, nz]
                refine wpAnyH_ready (rs := [12]) (by kernel_rfl) (by simp) ?_
                refine (AllReadyH.cons rfl (fun K hK => ?_) AllReadyH.nil)
                have O8 : Off (· = A9) W7 (W7.setCell ⟨A9, un * 8 + kn, none⟩ (.int .i64 (hv - 1))) := Off.of_setCell (F := (· = A9)) _ _ _ rfl
                have pit8 := pit7.idle HA9.out tb7.2 O8
                have tb8 : CLoc F5 (W7.setCell ⟨A9, un * 8 + kn, none⟩ (.int .i64 (hv - 1))) A9 (nI (H.set (un * 8 + kn) (hv - 1))) 58 := ⟨by rw [← nI_set]; exact row_set tb7.1 _ _, tb7.2⟩
                have lX8 : Row (W7.setCell ⟨A9, un * 8 + kn, none⟩ (.int .i64 (hv - 1))) X OB 36 := lX7.1.off O8 (fun q => HXA.out q.symm)
                have hh8 : Held s5 (H.set (un * 8 + kn) (hv - 1)) := HHD.out.set HUN.out HKN.out (x := (hv - 1)) HE5.out
                go_simp
                refine hK.out _ _ lX8 fun hS => ?_
                try simp only [Act.put, nz]
                refine wpAnyH_done (by kernel_rfl) ?_ _
                clear c8 z8 pit7 tb7 lX7 lX8 O8 hS
                generalize W7.setCell ⟨A9, un * 8 + kn, none⟩ (.int .i64 (hv - 1)) = W8 at pit8 tb8 ⊢
                go_wp2
                go_meet
                case rel => exact ⟨kc + 1, _, _, _, _, _, by have := HKC.out; omega, pit8, tb8, hh8, HM5.out⟩
              · generalize HUE : unpinE s (decide (un = 1)) (kn : Int) = EV at hE0 hup
                have hEb : (EV == 0) = false := by simpa using hE0
                clear HUE
                go_wp2_with (first
                  | (have hh := tl; clear hh tl; refine wpList_load_any rfl 31 (.tmp 83) rfl ⟨X, 1, none⟩ rfl [.bool (decide (un = 1)), .int .u16 (kn : Int)] _ qi Try.underlying31 rfl (by rw [size31]; rfl) ?_)
                  | (have hh := hup; clear hh; go_at_call 21; refine Calls.mono hup ?_; clear hup; rintro e W5 ⟨he, F5, s5, pit5, tr5, hm5, hE⟩; obtain rfl := he))
                have lX5 := HLX.out.tr tr5
                have tb5 := HTB.out.tr tr5
                have hh5 : Held s5 H := HHD.out.to fun u' k' => by
                  have := hE u' k'
                  rw [if_neg (fun q => hE0 q.1)] at this; exact this
                have HM5 : Hid (s5.most = n) := hm5.trans HMO.out
                go_meet
                case rel => exact ⟨kc + 1, _, _, _, _, _, by have := HKC.out; omega, pit5, tb5, hh5, HM5.out⟩
            · have hk0 : ¬ kd = 0 := hkd
              have hk1 : ¬ kd = 1 := hkd1
              have hk0' : (kd == 0) = false := by simpa using hkd
              have hk1' : (kd == 1) = false := by simpa using hkd1
              have hdo := Pit.do_ HPI.out (by have := HKC.out; have := HK.out; omega) (HCK.out W3 HB3.out) hkd hkd1
              rw [HOB.out] at hdo
              have tl : Hid (1 = 1) := rfl
              go_wp2_with (first
                | (have hh := tl; clear hh tl; refine load_cells rfl 36 (.tmp 11) rfl X rfl 36 OB HLX.out.1 229 Try.underlying36 rfl size36 HOS.out ?_)
                | (have hh := hdo; clear hh; go_at_call 9; refine Calls.mono hdo ?_; clear hdo; rintro e W5 ⟨he, F5, s5, l5, d5, pit5, tr5, hm5, hE⟩; obtain rfl := he))
              have tb5 := HTB.out.tr tr5
              have hh5 : Held s5 H := HHD.out.to hE
              have hm6 : s5.most = n := hm5.trans HMO.out
              go_meet
              case rel => exact ⟨kc + 1, _, _, _, _, _, by have := HKC.out; omega, pit5, tb5, hh5, hm6⟩
        case rest =>
          obtain ⟨kc2, F2, s2, l2, d2, H2, hkc2, pit2, tb2, hh2, hm2⟩ := hcut
          have HP2 : Hid (Pit w F2 gc gd gl gk ak s2 l2 d2 kc2 wc) := pit2
          have HT2 : Hid (CLoc F2 wc A9 (nI H2) 58) := tb2
          have HH2 : Hid (Held s2 H2) := hh2
          have HM2 : Hid (s2.most = n) := hm2
          have HK2 : Hid (kc2 ≤ k + 1) := hkc2
          clear pit2 tb2 hh2 hm2 hkc2 HHV hvb hu0 hu2 hn0 hn8 q0 q2 HQI qi HLX HPI HTB HHD HMO
          go_upto_region 22 with fail
          go_loopw [14, 15] (fun cn si wq => ∃ (q c : Nat), q ≤ 2 ∧ si = .int .i64 q ∧ cn = .int .i64 c ∧ Hid (c = cntQ (resQ s2.fs) (q * 8)) ∧ Below wc.heap.size wc wq) (fun _ i _ => 2 - (intOf i).toNat)
          case atStart => exact ⟨0, 0, by omega, rfl, rfl, rfl, Below.refl _ _⟩
          case round =>
            rename World => wq
            obtain ⟨q, c, hq, rfl, rfl, hc, hbq⟩ := hrel
            by_cases hq2 : q < 2
            · have hq2' : (q : Int) < 2 := by omega
              have hq0 : (0 : Int) ≤ (q : Int) := by omega
              have hwq : IntKind.i64.wrap ((q : Int) + 1) = ((q + 1 : Nat) : Int) := by rw [IntKind.wrap_i64]; omega
              go_upto_region 25 with fail
              go_loopw [14, 16] (fun cn pj wz => ∃ (j c : Nat), j ≤ 8 ∧ pj = .int .i64 j ∧ cn = .int .i64 c ∧ Hid (c = cntQ (resQ s2.fs) (q * 8 + j)) ∧ Below wc.heap.size wc wz) (fun _ i _ => 8 - (intOf i).toNat)
              case atStart => exact ⟨0, c, by omega, rfl, rfl, hc, hbq⟩
              case round =>
                clear hc hbq
                rename World => wz
                obtain ⟨j, c, hj, rfl, rfl, hc, hbz⟩ := hrel
                by_cases hj8 : j < 8
                · have hj8' : (j : Int) < 8 := by omega
                  have hj0 : (0 : Int) ≤ (j : Int) := by omega
                  have hwj : IntKind.i64.wrap ((j : Int) + 1) = ((j + 1 : Nat) : Int) := by rw [IntKind.wrap_i64]; omega
                  have hwc : IntKind.u16.wrap (j : Int) = (j : Int) := by rw [IntKind.wrap_u16]; omega
                  have hcb : c ≤ 16 := by have := cntQ_bd (resQ s2.fs) (q * 8 + j); rw [← hc.out] at this; omega
                  have hwn : IntKind.i64.wrap ((c : Int) + 1) = ((c + 1 : Nat) : Int) := by rw [IntKind.wrap_i64]; omega
                  have hq1 : ((q : Int) == 1) = decide (q = 1) := by
                    by_cases e : q = 1
                    · subst e; rfl
                    · rw [decide_eq_false e]; simp; omega
                  have bu := built31b (decide (q = 1)) (j : Int)
                  have hz31 := zero31p
                  have rI : Row (wz.alloc (.cells #[.bool false, .int .u16 0] 31)) wz.heap.size #[.bool false, .int .u16 0] 31 := Row.new _ _ _
                  have ts : Hid (1 = 1) := rfl
                  go_upto_region 28 with (have hh := ts; clear hh ts; refine store_cells rfl 31 (.tmp 17) (.tmp 111) rfl wz.heap.size #[.bool (decide (q = 1)), .int .u16 (j : Int)] rfl rfl 31 _ rI 2 size31 rfl rfl (by simp [Value.oneCell']) ?_)
                  have bX : Below wc.heap.size wc ((wz.alloc (.cells #[.bool false, .int .u16 0] 31)).setRow wz.heap.size #[.bool (decide (q = 1)), .int .u16 (j : Int)]) := hbz.trans ((below_setRow ((Below.refl _ _).alloc (Nat.le_refl _) _) (Nat.le_refl _) _).mono hbz.size)
                  have rX := rI.set #[.bool (decide (q = 1)), .int .u16 (j : Int)]
                  clear rI hz31 bu hbz
                  generalize (wz.alloc (.cells #[.bool false, .int .u16 0] 31)).setRow wz.heap.size #[.bool (decide (q = 1)), .int .u16 (j : Int)] = WX at bX rX ⊢
                  generalize wz.heap.size = A17 at rX ⊢
                  have tbX : Row WX A9 (nI H2) 58 := HT2.out.1.below bX HT2.out.1.lt
                  have pitX := HP2.out.below bX
                  obtain ⟨x, HX⟩ : ∃ x, Hid (pinsC s2 (decide (q = 1)) (j : Int) = x) := ⟨_, rfl⟩
                  have HHX : Hid ((nI H2)[q * 8 + j]? = some (.int .i64 x)) := nI_at (by rw [← HX.out]; exact HH2.out.2 q j hq2 hj8)
                  have HPN : Hid (∀ W, Below WX.heap.size WX W → Calls Try.prog 22 #[.pointer (some ⟨gc, 0, none⟩), .agg #[.bool (decide (q = 1)), .int .u16 (j : Int)]] W fun e w' => e = .returned (.int .i64 x) ∧ Below W.heap.size W w') := fun W hb => by
                    have := (pitX.below hb).pins (decide (q = 1)) (j := (j : Int)) (by omega)
                    rw [HX.out] at this; exact this
                  obtain ⟨r, hr⟩ : ∃ r, Hid (resQ s2.fs (q * 8 + j) = r) := ⟨_, rfl⟩
                  have HHS : Hid (∀ W, Below WX.heap.size WX W → Calls Try.prog 23 #[.pointer (some ⟨gc, 0, none⟩), .agg #[.bool (decide (q = 1)), .int .u16 (j : Int)]] W fun e w' => e = .returned (.bool r) ∧ Below W.heap.size W w') := fun W hb => by
                    have := (pitX.below hb).has (decide (q = 1)) (j := (j : Int)) (by omega)
                    rw [posF_res s2.fs hq2 hj8, hr.out] at this; exact this
                  have HXR : Hid (x ≠ 0 → r = true) := fun h => by
                    have := pins_res (s := s2) (u := decide (q = 1)) (j := (j : Int)) (by rw [HX.out]; exact h)
                    rw [posF_res s2.fs hq2 hj8, hr.out] at this; exact this
                  have hcr : cntQ (resQ s2.fs) (q * 8 + (j + 1)) = c + (if r = true then 1 else 0) := by
                    show cntQ (resQ s2.fs) (q * 8 + j) + (if resQ s2.fs (q * 8 + j) = true then 1 else 0) = _
                    rw [← hc.out, hr.out]
                  clear pitX hc
                  cases r with
                  | true =>
                    have hcn : Hid (c + 1 = cntQ (resQ s2.fs) (q * 8 + (j + 1))) := hcr.symm
                    clear hcr
                    by_cases hx0 : 0 < x
                    · refine wp_region_held_drew (S := fun W => Row W A17 #[.bool (decide (q = 1)), .int .u16 (j : Int)] 31 ∧ Row W A9 (nI H2) 58 ∧ Below WX.heap.size WX W) (by kernel_rfl) ⟨rX, tbX, (Below.refl _ _).drew⟩ fun hS => ?_
                      generalize WX.drew = Wd at hS ⊢
                      refine tkH (i := 0) (v := .pointer (some ⟨gc, 0, none⟩)) rfl (by kernel_rfl) (fun _ _ _ h => h) (Or.inl ⟨by rfl, fun w _ => by rfl⟩) hS ?_
                      try simp only [Act.put, nz]
                      refine tkH (i := 1) (v := .agg #[.bool (decide (q = 1)), .int .u16 (j : Int)]) rfl (by kernel_rfl) (fun _ _ _ h => h) (yields_cells (by rfl) 31 (.tmp 17) rfl A17 rfl 31 #[.bool (decide (q = 1)), .int .u16 (j : Int)] (fun w h => h.1) 2 Try.underlying31 rfl size31 rfl) hS ?_
                      try simp only [Act.put, nz]
                      refine tkH (i := 3) (v := .int .i64 q) rfl (by kernel_rfl) (fun _ _ _ h => h) (Or.inl ⟨by rfl, fun w _ => by rfl⟩) hS ?_
                      try simp only [Act.put, nz]
                      refine tkH (i := 4) (v := .int .i64 j) rfl (by kernel_rfl) (fun _ _ _ h => h) (Or.inl ⟨by rfl, fun w _ => by rfl⟩) hS ?_
                      try simp only [Act.put, nz]
                      refine tkH (i := 5) (v := .pointer (some ⟨A9, q * 8, none⟩)) rfl (by kernel_rfl) (fun _ _ _ h => h) (Or.inl ⟨by rfl, fun w _ => by go_simp⟩) hS ?_
                      try simp only [Act.put, nz]
                      refine tkH (i := 6) (v := .pointer (some ⟨A9, q * 8 + j, none⟩)) rfl (by kernel_rfl) (fun _ _ _ h => h) (Or.inl ⟨by rfl, fun w _ => by go_simp⟩) hS ?_
                      try simp only [Act.put, nz]
                      refine tkH (i := 7) (v := .int .i64 x) rfl (by kernel_rfl) (fun _ _ _ h => h) (Or.inl ⟨by rfl, fun w h => by have c := row_at h.2.1 (q * 8 + j) _ HHX.out; go_simp⟩) hS ?_
                      try simp only [Act.put, nz]
                      refine wpAnyH_ready (rs := [2]) (by kernel_rfl) (by simp) ?_
                      refine (AllReadyH.cons rfl (fun K hK => ?_) AllReadyH.nil)
                      have hcl := HPN.out Wd hS.2.2
                      go_simp
                      go_at_call 22
                      refine Calls.mono hcl ?_
                      clear hcl
                      rintro e We ⟨he, hcb⟩
                      obtain rfl := he
                      refine hK.out _ _ ⟨hS.1.below hcb hS.1.lt, hS.2.1.below hcb hS.2.1.lt, hS.2.2.trans (hcb.mono hS.2.2.size)⟩ fun hS => ?_
                      try simp only [Act.put, nz]
                      clear hcb
                      refine tkH (i := 8) (v := .bool false) rfl (by kernel_rfl) (fun _ _ _ h => h) (Or.inl ⟨by rfl, fun w _ => by go_simp⟩) hS ?_
                      try simp only [Act.put, nz]
                      refine tkH (i := 9) (v := .bool false) rfl (by kernel_rfl) (fun _ _ _ h => h) (Or.inl ⟨by rfl, fun w _ => by rfl⟩) hS ?_
                      try simp only [Act.put, nz]
                      refine tkH (i := 10) (v := .int .i64 q) rfl (by kernel_rfl) (fun _ _ _ h => h) (Or.inl ⟨by rfl, fun w _ => by go_simp⟩) hS ?_
                      try simp only [Act.put, nz]
                      refine tkH (i := 11) (v := .int .i64 j) rfl (by kernel_rfl) (fun _ _ _ h => h) (Or.inl ⟨by rfl, fun w _ => by go_simp⟩) hS ?_
                      try simp only [Act.put, nz]
                      refine tkH (i := 12) (v := .pointer (some ⟨A9, q * 8, none⟩)) rfl (by kernel_rfl) (fun _ _ _ h => h) (Or.inl ⟨by rfl, fun w _ => by go_simp⟩) hS ?_
                      try simp only [Act.put, nz]
                      refine tkH (i := 13) (v := .pointer (some ⟨A9, q * 8 + j, none⟩)) rfl (by kernel_rfl) (fun _ _ _ h => h) (Or.inl ⟨by rfl, fun w _ => by go_simp⟩) hS ?_
                      try simp only [Act.put, nz]
                      refine tkH (i := 14) (v := .int .i64 x) rfl (by kernel_rfl) (fun _ _ _ h => h) (Or.inl ⟨by rfl, fun w h => by have c := row_at h.2.1 (q * 8 + j) _ HHX.out; go_simp⟩) hS ?_
                      try simp only [Act.put, nz]
                      refine tkH (i := 15) (v := .bool true) rfl (by kernel_rfl) (fun _ _ _ h => h) (Or.inl ⟨by rfl, fun w _ => by go_simp⟩) hS ?_
                      try simp only [Act.put, nz]
                      refine tkH (i := 16) (v := .bool true) rfl (by kernel_rfl) (fun _ _ _ h => h) (Or.inl ⟨by rfl, fun w _ => by go_simp⟩) hS ?_
                      try simp only [Act.put, nz]
                      refine tkH (i := 17) (v := .pointer (some ⟨gc, 0, none⟩)) rfl (by kernel_rfl) (fun _ _ _ h => h) (Or.inl ⟨by rfl, fun w _ => by go_simp⟩) hS ?_
                      try simp only [Act.put, nz]
                      refine tkH (i := 18) (v := .agg #[.bool (decide (q = 1)), .int .u16 (j : Int)]) rfl (by kernel_rfl) (fun _ _ _ h => h) (yields_cells (by rfl) 31 (.tmp 17) rfl A17 rfl 31 #[.bool (decide (q = 1)), .int .u16 (j : Int)] (fun w h => h.1) 2 Try.underlying31 rfl size31 rfl) hS ?_
                      try simp only [Act.put, nz]
                      refine wpAnyH_ready (rs := [19]) (by kernel_rfl) (by simp) ?_
                      refine (AllReadyH.cons rfl (fun K hK => ?_) AllReadyH.nil)
                      have hcl := HHS.out We hS.2.2
                      go_simp
                      go_at_call 23
                      refine Calls.mono hcl ?_
                      clear hcl
                      rintro e Wf ⟨he, hcb⟩
                      obtain rfl := he
                      refine hK.out _ _ ⟨hS.1.below hcb hS.1.lt, hS.2.1.below hcb hS.2.1.lt, hS.2.2.trans (hcb.mono hS.2.2.size)⟩ fun hS => ?_
                      try simp only [Act.put, nz]
                      clear hcb
                      refine tkH (i := 20) (v := .bool false) rfl (by kernel_rfl) (fun _ _ _ h => h) (Or.inl ⟨by rfl, fun w _ => by go_simp⟩) hS ?_
                      try simp only [Act.put, nz]
                      refine tkH (i := 21) (v := .bool false) rfl (by kernel_rfl) (fun _ _ _ h => h) (Or.inl ⟨by rfl, fun w _ => by go_simp⟩) hS ?_
                      try simp only [Act.put, nz]
                      refine tkH (i := 22) (v := .bool false) rfl (by kernel_rfl) (fun _ _ _ h => h) (Or.inl ⟨by rfl, fun w _ => by go_simp⟩) hS ?_
                      try simp only [Act.put, nz]
                      refine wpAnyH_done (by kernel_rfl) ?_ _
                      have hr17 := hS.1
                      have hbX2 := hS.2.2
                      clear hS
                      have hcl := HHS.out Wf hbX2
                      have tl : Hid (1 = 1) := rfl
                      go_wp2_with (first
                        | (have hh := tl; clear hh tl; refine load_cells rfl 31 (.tmp 17) rfl A17 rfl 31 #[.bool (decide (q = 1)), .int .u16 (j : Int)] hr17 2 Try.underlying31 rfl size31 rfl ?_)
                        | (have hh := hcl; clear hh; go_at_call 23; refine Calls.mono hcl ?_; clear hcl; rintro e Wg ⟨he, hbg⟩; obtain rfl := he))
                      have bG : Below wc.heap.size wc Wg := bX.trans ((hbX2.trans (hbg.mono hbX2.size)).mono bX.size)
                      go_roundw
                      case rel => exact ⟨j + 1, c + 1, by omega, by first | rfl | simp, by first | rfl | simp, hcn, bG⟩
                      case measure => simp only [intOf]; omega
                    · refine wp_region_held_drew (S := fun W => Row W A17 #[.bool (decide (q = 1)), .int .u16 (j : Int)] 31 ∧ Row W A9 (nI H2) 58 ∧ Below WX.heap.size WX W) (by kernel_rfl) ⟨rX, tbX, (Below.refl _ _).drew⟩ fun hS => ?_
                      generalize WX.drew = Wd at hS ⊢
                      refine tkH (i := 0) (v := .pointer (some ⟨gc, 0, none⟩)) rfl (by kernel_rfl) (fun _ _ _ h => h) (Or.inl ⟨by rfl, fun w _ => by rfl⟩) hS ?_
                      try simp only [Act.put, nz]
                      refine tkH (i := 1) (v := .agg #[.bool (decide (q = 1)), .int .u16 (j : Int)]) rfl (by kernel_rfl) (fun _ _ _ h => h) (yields_cells (by rfl) 31 (.tmp 17) rfl A17 rfl 31 #[.bool (decide (q = 1)), .int .u16 (j : Int)] (fun w h => h.1) 2 Try.underlying31 rfl size31 rfl) hS ?_
                      try simp only [Act.put, nz]
                      refine tkH (i := 3) (v := .int .i64 q) rfl (by kernel_rfl) (fun _ _ _ h => h) (Or.inl ⟨by rfl, fun w _ => by rfl⟩) hS ?_
                      try simp only [Act.put, nz]
                      refine tkH (i := 4) (v := .int .i64 j) rfl (by kernel_rfl) (fun _ _ _ h => h) (Or.inl ⟨by rfl, fun w _ => by rfl⟩) hS ?_
                      try simp only [Act.put, nz]
                      refine tkH (i := 5) (v := .pointer (some ⟨A9, q * 8, none⟩)) rfl (by kernel_rfl) (fun _ _ _ h => h) (Or.inl ⟨by rfl, fun w _ => by go_simp⟩) hS ?_
                      try simp only [Act.put, nz]
                      refine tkH (i := 6) (v := .pointer (some ⟨A9, q * 8 + j, none⟩)) rfl (by kernel_rfl) (fun _ _ _ h => h) (Or.inl ⟨by rfl, fun w _ => by go_simp⟩) hS ?_
                      try simp only [Act.put, nz]
                      refine tkH (i := 7) (v := .int .i64 x) rfl (by kernel_rfl) (fun _ _ _ h => h) (Or.inl ⟨by rfl, fun w h => by have c := row_at h.2.1 (q * 8 + j) _ HHX.out; go_simp⟩) hS ?_
                      try simp only [Act.put, nz]
                      refine wpAnyH_ready (rs := [2]) (by kernel_rfl) (by simp) ?_
                      refine (AllReadyH.cons rfl (fun K hK => ?_) AllReadyH.nil)
                      have hcl := HPN.out Wd hS.2.2
                      go_simp
                      go_at_call 22
                      refine Calls.mono hcl ?_
                      clear hcl
                      rintro e We ⟨he, hcb⟩
                      obtain rfl := he
                      refine hK.out _ _ ⟨hS.1.below hcb hS.1.lt, hS.2.1.below hcb hS.2.1.lt, hS.2.2.trans (hcb.mono hS.2.2.size)⟩ fun hS => ?_
                      try simp only [Act.put, nz]
                      clear hcb
                      refine tkH (i := 8) (v := .bool false) rfl (by kernel_rfl) (fun _ _ _ h => h) (Or.inl ⟨by rfl, fun w _ => by go_simp⟩) hS ?_
                      try simp only [Act.put, nz]
                      refine tkH (i := 9) (v := .bool false) rfl (by kernel_rfl) (fun _ _ _ h => h) (Or.inl ⟨by rfl, fun w _ => by rfl⟩) hS ?_
                      try simp only [Act.put, nz]
                      refine tkH (i := 10) (v := .int .i64 q) rfl (by kernel_rfl) (fun _ _ _ h => h) (Or.inl ⟨by rfl, fun w _ => by go_simp⟩) hS ?_
                      try simp only [Act.put, nz]
                      refine tkH (i := 11) (v := .int .i64 j) rfl (by kernel_rfl) (fun _ _ _ h => h) (Or.inl ⟨by rfl, fun w _ => by go_simp⟩) hS ?_
                      try simp only [Act.put, nz]
                      refine tkH (i := 12) (v := .pointer (some ⟨A9, q * 8, none⟩)) rfl (by kernel_rfl) (fun _ _ _ h => h) (Or.inl ⟨by rfl, fun w _ => by go_simp⟩) hS ?_
                      try simp only [Act.put, nz]
                      refine tkH (i := 13) (v := .pointer (some ⟨A9, q * 8 + j, none⟩)) rfl (by kernel_rfl) (fun _ _ _ h => h) (Or.inl ⟨by rfl, fun w _ => by go_simp⟩) hS ?_
                      try simp only [Act.put, nz]
                      refine tkH (i := 14) (v := .int .i64 x) rfl (by kernel_rfl) (fun _ _ _ h => h) (Or.inl ⟨by rfl, fun w h => by have c := row_at h.2.1 (q * 8 + j) _ HHX.out; go_simp⟩) hS ?_
                      try simp only [Act.put, nz]
                      refine tkH (i := 15) (v := .bool false) rfl (by kernel_rfl) (fun _ _ _ h => h) (Or.inl ⟨by rfl, fun w _ => by go_simp⟩) hS ?_
                      try simp only [Act.put, nz]
                      refine tkH (i := 16) (v := .bool false) rfl (by kernel_rfl) (fun _ _ _ h => h) (Or.inl ⟨by rfl, fun w _ => by go_simp⟩) hS ?_
                      try simp only [Act.put, nz]
                      refine tkH (i := 17) (v := undef) rfl (by kernel_rfl) (fun _ _ _ h => h) (Or.inr ⟨by rfl, by rfl⟩) hS ?_
                      try simp only [Act.put, nz]
                      refine tkH (i := 18) (v := undef) rfl (by kernel_rfl) (fun _ _ _ h => h) (Or.inr ⟨by rfl, by rfl⟩) hS ?_
                      try simp only [Act.put, nz]
                      refine tkH (i := 19) (v := undef) rfl (by kernel_rfl) (fun _ _ _ h => h) (Or.inr ⟨by rfl, by rfl⟩) hS ?_
                      try simp only [Act.put, nz]
                      refine tkH (i := 20) (v := undef) rfl (by kernel_rfl) (fun _ _ _ h => h) (Or.inr ⟨by rfl, by rfl⟩) hS ?_
                      try simp only [Act.put, nz]
                      refine tkH (i := 21) (v := .bool false) rfl (by kernel_rfl) (fun _ _ _ h => h) (Or.inl ⟨by rfl, fun w _ => by go_simp⟩) hS ?_
                      try simp only [Act.put, nz]
                      refine tkH (i := 22) (v := .bool false) rfl (by kernel_rfl) (fun _ _ _ h => h) (Or.inl ⟨by rfl, fun w _ => by go_simp⟩) hS ?_
                      try simp only [Act.put, nz]
                      refine wpAnyH_done (by kernel_rfl) ?_ _
                      have hr17 := hS.1
                      have hbX2 := hS.2.2
                      clear hS
                      have hcl := HHS.out We hbX2
                      have tl : Hid (1 = 1) := rfl
                      go_wp2_with (first
                        | (have hh := tl; clear hh tl; refine load_cells rfl 31 (.tmp 17) rfl A17 rfl 31 #[.bool (decide (q = 1)), .int .u16 (j : Int)] hr17 2 Try.underlying31 rfl size31 rfl ?_)
                        | (have hh := hcl; clear hh; go_at_call 23; refine Calls.mono hcl ?_; clear hcl; rintro e Wg ⟨he, hbg⟩; obtain rfl := he))
                      have bG : Below wc.heap.size wc Wg := bX.trans ((hbX2.trans (hbg.mono hbX2.size)).mono bX.size)
                      go_roundw
                      case rel => exact ⟨j + 1, c + 1, by omega, by first | rfl | simp, by first | rfl | simp, hcn, bG⟩
                      case measure => simp only [intOf]; omega
                  | false =>
                    have hcn : Hid (c = cntQ (resQ s2.fs) (q * 8 + (j + 1))) := hcr.symm
                    have hx0 : ¬ 0 < x := fun h => by have := HXR.out (by omega); cases this
                    clear hcr
                    refine wp_region_held_drew (S := fun W => Row W A17 #[.bool (decide (q = 1)), .int .u16 (j : Int)] 31 ∧ Row W A9 (nI H2) 58 ∧ Below WX.heap.size WX W) (by kernel_rfl) ⟨rX, tbX, (Below.refl _ _).drew⟩ fun hS => ?_
                    generalize WX.drew = Wd at hS ⊢
                    refine tkH (i := 0) (v := .pointer (some ⟨gc, 0, none⟩)) rfl (by kernel_rfl) (fun _ _ _ h => h) (Or.inl ⟨by rfl, fun w _ => by rfl⟩) hS ?_
                    try simp only [Act.put, nz]
                    refine tkH (i := 1) (v := .agg #[.bool (decide (q = 1)), .int .u16 (j : Int)]) rfl (by kernel_rfl) (fun _ _ _ h => h) (yields_cells (by rfl) 31 (.tmp 17) rfl A17 rfl 31 #[.bool (decide (q = 1)), .int .u16 (j : Int)] (fun w h => h.1) 2 Try.underlying31 rfl size31 rfl) hS ?_
                    try simp only [Act.put, nz]
                    refine tkH (i := 3) (v := .int .i64 q) rfl (by kernel_rfl) (fun _ _ _ h => h) (Or.inl ⟨by rfl, fun w _ => by rfl⟩) hS ?_
                    try simp only [Act.put, nz]
                    refine tkH (i := 4) (v := .int .i64 j) rfl (by kernel_rfl) (fun _ _ _ h => h) (Or.inl ⟨by rfl, fun w _ => by rfl⟩) hS ?_
                    try simp only [Act.put, nz]
                    refine tkH (i := 5) (v := .pointer (some ⟨A9, q * 8, none⟩)) rfl (by kernel_rfl) (fun _ _ _ h => h) (Or.inl ⟨by rfl, fun w _ => by go_simp⟩) hS ?_
                    try simp only [Act.put, nz]
                    refine tkH (i := 6) (v := .pointer (some ⟨A9, q * 8 + j, none⟩)) rfl (by kernel_rfl) (fun _ _ _ h => h) (Or.inl ⟨by rfl, fun w _ => by go_simp⟩) hS ?_
                    try simp only [Act.put, nz]
                    refine tkH (i := 7) (v := .int .i64 x) rfl (by kernel_rfl) (fun _ _ _ h => h) (Or.inl ⟨by rfl, fun w h => by have c := row_at h.2.1 (q * 8 + j) _ HHX.out; go_simp⟩) hS ?_
                    try simp only [Act.put, nz]
                    refine wpAnyH_ready (rs := [2]) (by kernel_rfl) (by simp) ?_
                    refine (AllReadyH.cons rfl (fun K hK => ?_) AllReadyH.nil)
                    have hcl := HPN.out Wd hS.2.2
                    go_simp
                    go_at_call 22
                    refine Calls.mono hcl ?_
                    clear hcl
                    rintro e We ⟨he, hcb⟩
                    obtain rfl := he
                    refine hK.out _ _ ⟨hS.1.below hcb hS.1.lt, hS.2.1.below hcb hS.2.1.lt, hS.2.2.trans (hcb.mono hS.2.2.size)⟩ fun hS => ?_
                    try simp only [Act.put, nz]
                    clear hcb
                    refine tkH (i := 8) (v := .bool false) rfl (by kernel_rfl) (fun _ _ _ h => h) (Or.inl ⟨by rfl, fun w _ => by go_simp⟩) hS ?_
                    try simp only [Act.put, nz]
                    refine tkH (i := 9) (v := .bool false) rfl (by kernel_rfl) (fun _ _ _ h => h) (Or.inl ⟨by rfl, fun w _ => by rfl⟩) hS ?_
                    try simp only [Act.put, nz]
                    refine tkH (i := 10) (v := .int .i64 q) rfl (by kernel_rfl) (fun _ _ _ h => h) (Or.inl ⟨by rfl, fun w _ => by go_simp⟩) hS ?_
                    try simp only [Act.put, nz]
                    refine tkH (i := 11) (v := .int .i64 j) rfl (by kernel_rfl) (fun _ _ _ h => h) (Or.inl ⟨by rfl, fun w _ => by go_simp⟩) hS ?_
                    try simp only [Act.put, nz]
                    refine tkH (i := 12) (v := .pointer (some ⟨A9, q * 8, none⟩)) rfl (by kernel_rfl) (fun _ _ _ h => h) (Or.inl ⟨by rfl, fun w _ => by go_simp⟩) hS ?_
                    try simp only [Act.put, nz]
                    refine tkH (i := 13) (v := .pointer (some ⟨A9, q * 8 + j, none⟩)) rfl (by kernel_rfl) (fun _ _ _ h => h) (Or.inl ⟨by rfl, fun w _ => by go_simp⟩) hS ?_
                    try simp only [Act.put, nz]
                    refine tkH (i := 14) (v := .int .i64 x) rfl (by kernel_rfl) (fun _ _ _ h => h) (Or.inl ⟨by rfl, fun w h => by have c := row_at h.2.1 (q * 8 + j) _ HHX.out; go_simp⟩) hS ?_
                    try simp only [Act.put, nz]
                    refine tkH (i := 15) (v := .bool false) rfl (by kernel_rfl) (fun _ _ _ h => h) (Or.inl ⟨by rfl, fun w _ => by go_simp⟩) hS ?_
                    try simp only [Act.put, nz]
                    refine tkH (i := 16) (v := .bool false) rfl (by kernel_rfl) (fun _ _ _ h => h) (Or.inl ⟨by rfl, fun w _ => by go_simp⟩) hS ?_
                    try simp only [Act.put, nz]
                    refine tkH (i := 17) (v := undef) rfl (by kernel_rfl) (fun _ _ _ h => h) (Or.inr ⟨by rfl, by rfl⟩) hS ?_
                    try simp only [Act.put, nz]
                    refine tkH (i := 18) (v := undef) rfl (by kernel_rfl) (fun _ _ _ h => h) (Or.inr ⟨by rfl, by rfl⟩) hS ?_
                    try simp only [Act.put, nz]
                    refine tkH (i := 19) (v := undef) rfl (by kernel_rfl) (fun _ _ _ h => h) (Or.inr ⟨by rfl, by rfl⟩) hS ?_
                    try simp only [Act.put, nz]
                    refine tkH (i := 20) (v := undef) rfl (by kernel_rfl) (fun _ _ _ h => h) (Or.inr ⟨by rfl, by rfl⟩) hS ?_
                    try simp only [Act.put, nz]
                    refine tkH (i := 21) (v := .bool false) rfl (by kernel_rfl) (fun _ _ _ h => h) (Or.inl ⟨by rfl, fun w _ => by go_simp⟩) hS ?_
                    try simp only [Act.put, nz]
                    refine tkH (i := 22) (v := .bool false) rfl (by kernel_rfl) (fun _ _ _ h => h) (Or.inl ⟨by rfl, fun w _ => by go_simp⟩) hS ?_
                    try simp only [Act.put, nz]
                    refine wpAnyH_done (by kernel_rfl) ?_ _
                    have hr17 := hS.1
                    have hbX2 := hS.2.2
                    clear hS
                    have hcl := HHS.out We hbX2
                    have tl : Hid (1 = 1) := rfl
                    go_wp2_with (first
                      | (have hh := tl; clear hh tl; refine load_cells rfl 31 (.tmp 17) rfl A17 rfl 31 #[.bool (decide (q = 1)), .int .u16 (j : Int)] hr17 2 Try.underlying31 rfl size31 rfl ?_)
                      | (have hh := hcl; clear hh; go_at_call 23; refine Calls.mono hcl ?_; clear hcl; rintro e Wg ⟨he, hbg⟩; obtain rfl := he))
                    have bG : Below wc.heap.size wc Wg := bX.trans ((hbX2.trans (hbg.mono hbX2.size)).mono bX.size)
                    go_roundw
                    case rel => exact ⟨j + 1, c, by omega, by first | rfl | simp, by first | rfl | simp, hcn, bG⟩
                    case measure => simp only [intOf]; omega
                · have hj8' : ¬ (j : Int) < 8 := by omega
                  obtain rfl : j = 8 := by omega
                  go_wp2
                  go_roundw
                  case rel => exact ⟨q + 1, c, by omega, by first | rfl | simp, by first | rfl | simp, by rw [show (q + 1) * 8 = q * 8 + 8 by omega]; exact hc, hbz⟩
                  case measure => simp only [intOf]; omega
            · have hq2' : ¬ (q : Int) < 2 := by omega
              obtain rfl : q = 2 := by omega
              have hgt : ¬ (n : Int) < (c : Int) := by
                have h1 := resQ_few s2.fs
                have h2 := HP2.out.zr.2.few
                have h3 := HM2.out
                have h4 := hc.out
                have h5 : 2 * 8 = 16 := rfl
                rw [h5] at h4
                omega
              have pitQ := HP2.out.below hbq
              have tbQ := HT2.out.below hbq
              go_wp2
              go_roundw
              case rel => exact ⟨k + 1, kc2, F2, s2, l2, d2, H2, by first | rfl | simp, by have := HK.out; omega, by have := HK2.out; omega, pitQ, tbQ, HH2.out, HM2.out⟩
              case measure => have := HK.out; simp only [intOf]; omega
      · have hk8' : ¬ (k : Int) < 80 := by omega
        have haw := HAW.out wr
        go_wp2_with (go_at_call 14; refine Calls.mono haw ?_; clear haw; rintro e W5 ⟨he, hb⟩; obtain rfl := he)
        rw [HPP.out]
        exact ⟨rfl, pit.bel.trans (hb.mono pit.bel.size)⟩
    · have hkX' : ¬ (k : Int) < (cs.length : Int) := by omega
      have haw := HAW.out wr
      go_wp2_with (go_at_call 14; refine Calls.mono haw ?_; clear haw; rintro e W5 ⟨he, hb⟩; obtain rfl := he)
      rw [HPP.out]
      exact ⟨rfl, pit.bel.trans (hb.mono pit.bel.size)⟩
set_option maxRecDepth 100000 in
theorem lifted (os : Os) (started : os.Started) (H : Type) (enc : TypeId × Value → H) :
    ReturnsInHanded {} Try.checked os 5 .any (Rows.cachePinsSpec.pre6 enc Try.prog Try.f5 Rows.cachePinsRow.domain false) (Rows.cachePinsSpec.post enc Try.prog Try.f5 false true false false) := by
  refine returnsInHanded_of_change_sized (C := Try.checked) own started (by kernel_rfl) Try.func5
    (ChangeSpec.witness6 (enc := enc) (C := Try.checked) false ⟨#[], #[.int .u8 0, .slice none 0 0], []⟩ 8 (by kernel_rfl) (by kernel_rfl) (by kernel_rfl) (by kernel_rfl)) ?_
  intro W base args ds gs before hval0 hW hcnd hsz0 _
  have hval : ∀ (j : Nat) t v, Try.f5.params[j]? = some t → args[j]? = some v → Value.okWide Try.prog W .any base t v := hval0
  have hW' := hW
  obtain ⟨p, q, hA0, hV, rfl, hfz, hnd⟩ := hW
  have hA : DataW.TrodAll enc Try.prog W 0 (fun _ => true) true Try.f5.params.toList args.toList ds p := hA0
  have hsz : (DataW.weightsEach Try.prog (Try.f5.params.toList ++ []) (ds ++ gs)).all (· ≤ reachBytes) = true := hsz0
  rw [Try.params5] at hA hval hsz
  obtain ⟨v0, vs0, d0, ds0, p0, q0, hargs, rfl, rfl, h0, r0⟩ := trodAll_cons hA
  obtain ⟨v1, vs1, d1, ds1, p1, q1, rfl, rfl, rfl, h1, r1⟩ := trodAll_cons r0
  obtain ⟨rfl, rfl, rfl⟩ := trodAll_nil r1
  obtain rfl : args = #[v0, v1] := by cases args; simp_all
  obtain ⟨rfl, rfl⟩ := trodVars_none hV
  simp only [List.append_nil] at hsz
  have hlt : ∀ x ∈ (p0 ++ (p1 ++ [])), x.block < W.heap.size := fun x hx => hW'.lt x (by simpa using hx)
  have hw0 : (d0.weights Try.prog 5).all (· ≤ reachBytes) = true := List.all_eq_true.2 fun m hm => List.all_eq_true.1 hsz m (by simp [DataW.weightsEach, hm])
  have hw1 : (d1.weights Try.prog 22).all (· ≤ reachBytes) = true := List.all_eq_true.2 fun m hm => List.all_eq_true.1 hsz m (by simp [DataW.weightsEach, hm])
  have k0 := h0
  have k1 := h1
  obtain ⟨a0, rfl, rfl, rfl, w0⟩ := open_int Try.underlying5 (hval 0 5 v0 rfl rfl) h0
  obtain ⟨a1, w1⟩ := open_xos (hval 1 22 v1 rfl rfl) h1 hw1
  clear hA0 hval0
  simp only [List.append_nil] at hW'
  refine (walk W a0 v1 a1 w0 w1).mono fun e W' ⟨he, hg⟩ => ?_
  subst he
  exact ⟨_, rfl, ⟨_, _, _, [], ([] ++ (p1 ++ [])), [], hW', (trodAll_cons_mk (shut_bool Try.underlying4 _) trodAll_mk0), (trodAll_cons_mk (Below.trod laidOut (by kernel_rfl) (of_decide_eq_true (by kernel_rfl)) k0 hg (fun x hx => (nomatch hx))) (trodAll_cons_mk (Below.trod laidOut (by kernel_rfl) (of_decide_eq_true (by kernel_rfl)) k1 hg (fun x hx => hlt x (by simp [hx]))) trodAll_mk0)), rfl,
    hg.frame _, fun h => by cases h⟩⟩
theorem over : Rows.cachePinsRow.holds Try.pinned (OpenSpec.ofChange Rows.cachePinsSpec) :=
  OpenClaim.holds_of_wide 5 Try.f5 rfl rfl rfl rfl rfl rfl rfl ⟨rfl, rfl, rfl, rfl, rfl⟩ rfl rfl rfl rfl rfl (by kernel_rfl) Try.func5 (by kernel_rfl)
    (of_decide_eq_true (by kernel_rfl)) (by unfold Func.isWrapper; first | (rw [if_pos (by decide +kernel)]; kernel_rfl) | (rw [if_neg (by decide +kernel)]; exact ⟨rfl, rfl⟩))
    (fun os started H enc _ => lifted os started H enc)
theorem proved : Rows.CachePinsSaid :=
  over
#print axioms proved
end Go.Proofs.Ytehogiondcpbcaa.cachePins
