/-
  Proved here: the fixed run: a page that was put is fetched again. Plain facts on the statements' arguments: data pages and payloads, as values that came in. Plain facts: the statements' arguments: pages' names, blocks, calls of a cache, as values that came in.
-/
import Derived.Test.YtehogiondcpbcaaJq32
import Derived.Test.YtehogiondcpbcaaJq22
import Derived.Test.YtehogiondcpbcaaJq24
import Derived.SizedLaws
import Derived.Deep.Grids
import Derived.Deep.Slices
import Derived.Lib.SmallJoins
import Derived.Carry
import Derived.Test.YtehogiondcpbcaaJq05
import Derived.Test.YtehogiondcpbcaaJq02
namespace Go.Proofs.Ytehogiondcpbcaa
open Go.ChangeShapes Go.WideShapes Go.ChangeAt Go.RowKit
set_option linter.unusedVariables false
set_option linter.unusedSimpArgs false
set_option maxRecDepth 20000
theorem zero31 (w : World) : (zeroValue 31).run Try.prog w = .ok (.agg #[.bool false, .int .u16 0]) w := (zero_of_info (P := Try.prog) (t := 31) (v := .agg #[.bool false, .int .u16 0]) (n := 2) (by kernel_rfl)).1 w
theorem fillP_bytes (u : Bool) (k b lsn : Int) : Bytes (fillP u k b lsn) := by
  unfold fillP
  split
  · exact putU_bytes k lsn [fO b]
  · exact putD_bytes _ _ (zs_bytes _)
theorem wfu1 : WfU 1 := rfl
def Awk3 (w : World) (F2 : Nat → Prop) (W2 : World) (gc gd gl gk ak : Nat) (e : Ending) (w' : World) : Prop :=
  ∃ (s1 : Cs) (d1 : Dsk) (f : Fm) (F3 : Nat → Prop), e = .returned (.tuple #[.agg (bs (blankP false 1)), .int .i64 0]) ∧ CS w F3 gc gd gl gk ak s1 log0 d1 1 4004 w' ∧ Tr F2 W2 F3 w' ∧ d1.ops = 1 ∧ s1.fs = [f] ∧ f.un = false ∧ f.no = 1 ∧ (s1.ck[0]?).map Cl.Fr.pins = some 1 ∧ isC s1 false 1 = true
theorem awk3_any {w : World} {F : Nat → Prop} {W : World} {gc gd gl gk ak : Nat} (h : CS w F gc gd gl gk ak (newC 4 5 4) log0 (Dsk.new 60) 0 0 W) : Calls Try.prog 16 #[.pointer (some ⟨gc, 0, none⟩), .agg #[.bool false, .int .u16 1]] W fun e w' => Awk3 w F W gc gd gl gk ak e w' := by
  refine (fetch_any h.2.1 false 1 wfu1 log0_inv (by decide) (by decide) (flush_ops log0_inv _) (by decide) (by decide)).mono ?_
  rintro e w' ⟨p, E, s1, l1, d1, hf, he, hst⟩
  obtain ⟨rfl, rfl, rfl, hd, f, h1, h2, h3, h4, h5⟩ := awk_first hf
  obtain ⟨F3, k1, k2⟩ := h.step hst
  exact ⟨s1, d1, f, F3, he, k1, k2, hd, h1, h2, h3, h4, h5⟩
def Awk7 (w : World) (F2 : Nat → Prop) (W2 : World) (gc gd gl gk ak : Nat) (e : Ending) (w' : World) : Prop :=
  ∃ (s3 : Cs) (l3 : Lg) (d3 : Dsk) (F3 : Nat → Prop), e = .returned (.tuple #[.agg (bs awkP), .int .i64 0]) ∧ CS w F3 gc gd gl gk ak s3 l3 d3 2 8008 w' ∧ Tr F2 W2 F3 w' ∧ pinsC s3 false 1 = 2 ∧ cleanC s3 false 1 = false
theorem awk7_any {w : World} {F : Nat → Prop} {W : World} {gc gd gl gk ak : Nat} {s1 : Cs} {d1 : Dsk} {f : Fm} (h : CS w F gc gd gl gk ak (putS s1 false 1 awkP) log0 d1 1 4004 W) (hd : d1.ops = 1) (h1 : s1.fs = [f]) (h2 : f.un = false) (h3 : f.no = 1) (h4 : (s1.ck[0]?).map Cl.Fr.pins = some 1) (h5 : isC s1 false 1 = true) : Calls Try.prog 16 #[.pointer (some ⟨gc, 0, none⟩), .agg #[.bool false, .int .u16 1]] W fun e w' => Awk7 w F W gc gd gl gk ak e w' := by
  refine (fetch_any h.2.1 false 1 wfu1 log0_inv (by decide) (by omega) (flush_ops log0_inv _) (by decide) (by decide)).mono ?_
  rintro e w' ⟨p, E, s3, l3, d3, hf, he, hst⟩
  obtain ⟨rfl, rfl, k3, k4⟩ := awk_rest h1 h2 h3 h4 h5 hf
  obtain ⟨F3, k1, k2⟩ := h.step hst
  exact ⟨s3, l3, d3, F3, he, k1, k2, k3, k4⟩
set_option maxHeartbeats 4000000 in
theorem awake_any (w : World) : Calls Try.prog 14 #[] w fun e w' => e = .returned (.bool true) ∧ Below w.heap.size w w' := by
  obtain ⟨PP, HPP⟩ : ∃ PP : Ending → World → Prop, Hid (PP = fun e w' => e = .returned (.bool true) ∧ Below w.heap.size w w') := ⟨_, rfl⟩
  rw [← HPP.out]
  have hz34 := zero34
  have hz31 := zero31
  obtain ⟨ZP, HZPD⟩ : ∃ ZP, Hid (bs (zs 224) = ZP) := ⟨_, rfl⟩
  have HZP : Hid (ZP.size = 224) := by rw [← HZPD.out, bs_size]; exact zs_length _
  rw [HZPD.out] at hz34
  have bu := built31 1
  have hov := over_any 4 (by omega) w
  obtain ⟨PB0, HPB0⟩ : ∃ PB0, Hid (bs (blankP false 1) = PB0) := ⟨_, rfl⟩
  have HP0 : Hid (PB0.size = 224) := by rw [← HPB0.out, bs_size]; exact blankP_length _ _
  have ho0 : PB0.all (·.oneCell') = true := by rw [← HPB0.out]; exact bs_one _
  obtain ⟨PB1, HPB1⟩ : ∃ PB1, Hid (bs awkP = PB1) := ⟨_, rfl⟩
  have HP1 : Hid (PB1.size = 224) := by rw [← HPB1.out, bs_size]; exact fillP_length _ _ _ _
  have ho1 : PB1.all (·.oneCell') = true := by rw [← HPB1.out]; exact bs_one _
  have HBL : Hid (∀ W, Calls Try.prog 15 #[.agg #[.bool false, .int .u16 1]] W fun e w' => e = .returned (.agg PB0) ∧ Below W.heap.size W w') := fun W => by rw [← HPB0.out]; exact blank_any false 1 W (by decide)
  have HFL : Hid (∀ W, Calls Try.prog 19 #[.agg #[.bool false, .int .u16 1], .int .u8 7, .int .u64 3] W fun e w' => e = .returned (.agg PB1) ∧ Below W.heap.size W w') := fun W => by rw [← HPB1.out]; exact fill_any false 1 7 3 wfu1 (by decide) (by decide) W
  have HEQ0 : Hid (∀ w, (Op.equalIn 10000 34 (.agg PB0) (.agg PB0)).run Try.prog w = .ok true w) := fun w => by
    have := equal34 (blankP false 1) (blankP false 1) (blankP_length _ _) (blankP_length _ _) w
    rw [HPB0.out] at this
    rw [this, decide_eq_true rfl]
  have HEQ1 : Hid (∀ w, (Op.equalIn 10000 34 (.agg PB1) (.agg PB1)).run Try.prog w = .ok true w) := fun w => by
    have := equal34 awkP awkP (fillP_length _ _ _ _) (fillP_length _ _ _ _) w
    rw [HPB1.out] at this
    rw [this, decide_eq_true rfl]
  have t0 : Hid (1 = 1) := rfl
  have t1 : Hid (1 = 1) := rfl
  have t2 : Hid (1 = 1) := rfl
  have t3 : Hid (1 = 1) := rfl
  have t4 : Hid (1 = 1) := rfl
  go_enter Try.func14, Try.ntmps14
  go_upto_region 5 with (first
    | (have hh := hov; clear hh; go_at_call 8; refine Calls.mono hov ?_; clear hov; rintro e W1 ⟨gd, gl, gc, gk, ak, F1, he, hb1, c1, hF1⟩; obtain rfl := he; have hc1 : CS w F1 gc gd gl gk ak (newC 4 5 4) log0 (Dsk.new 60) 0 0 W1 := ⟨hb1, c1, hF1⟩; have l4 : CLoc F1 (W1.alloc (.cells #[.bool false, .int .u16 0] 31)) W1.heap.size #[.bool false, .int .u16 0] 31 := hc1.newLoc _ _)
    | (have hh := t0; clear hh t0; refine build_parts rfl 31 #[(1, .const (.int .u16 1))] rfl [(1, .int .u16 1)] rfl _ bu ?_)
    | (have hh := t1; clear hh t1; refine store_cells rfl 31 (.tmp 4) (.tmp 25) rfl W1.heap.size #[.bool false, .int .u16 1] rfl rfl 31 _ l4.1 2 size31 rfl rfl (by simp [Value.oneCell']) ?_))
  have hc2 := (hc1.alloc (.cells #[.bool false, .int .u16 0] 31)).row l4 hb1.size #[.bool false, .int .u16 1]
  have q4 := l4.set #[.bool false, .int .u16 1]
  have HA4 : Hid (w.heap.size ≤ W1.heap.size) := hb1.size
  clear hc1 l4 c1 hF1 hb1
  generalize (W1.alloc (.cells #[.bool false, .int .u16 0] 31)).setRow W1.heap.size #[.bool false, .int .u16 1] = W2 at hc2 q4 ⊢
  generalize W1.heap.size = A4 at q4 HA4 ⊢
  have hf3 := awk3_any hc2
  rw [show Awk3 w F1 W2 gc gd gl gk ak = fun e w' => Awk3 w F1 W2 gc gd gl gk ak e w' from rfl] at hf3
  go_upto_region 6 with (first
    | (have hh := t2; clear hh t2; refine load_cells rfl 31 (.tmp 4) rfl A4 rfl 31 #[.bool false, .int .u16 1] q4.1 2 Try.underlying31 rfl size31 rfl ?_)
    | (have hh := hf3; clear hh; go_at_call 16; refine Calls.mono hf3 ?_; clear hf3; rintro e W3 ⟨s1, d1, f, F3, he, hc3, tr3, hd1, k1, k2, k3, k4, k5⟩; rw [HPB0.out] at he; obtain rfl := he; have q43 := q4.tr tr3; have HS1 : Hid (d1.ops = 1 ∧ s1.fs = [f] ∧ f.un = false ∧ f.no = 1 ∧ (s1.ck[0]?).map Cl.Fr.pins = some 1 ∧ isC s1 false 1 = true) := ⟨hd1, k1, k2, k3, k4, k5⟩; clear hd1 k1 k2 k3 k4 k5; have l5 : CLoc F3 (W3.alloc (.cells ZP 34)) W3.heap.size ZP 34 := hc3.newLoc _ _)
    | (have hh := t3; clear hh t3; refine store_cells rfl 34 (.tmp 5) (.tmp 30) rfl W3.heap.size PB0 rfl rfl 34 _ l5.1 224 size34 HZP.out HP0.out ho0 ?_))
  have hc4 := (hc3.alloc (.cells ZP 34)).row l5 hc3.1.size PB0
  have q5 := l5.set PB0
  have q44 := (q43.alloc (.cells ZP 34)).other (by have := q43.1.lt; omega) PB0 (g := W3.heap.size)
  have HA5 : Hid (w.heap.size ≤ W3.heap.size) := hc3.1.size
  have HA45 : Hid (A4 < W3.heap.size) := q43.1.lt
  clear hc3 l5 q43 tr3 q4 hc2
  generalize (W3.alloc (.cells ZP 34)).setRow W3.heap.size PB0 = W4 at hc4 q5 q44 ⊢
  generalize W3.heap.size = A5 at q5 HA5 HA45 ⊢
  have HC4 : Hid (CS w F3 gc gd gl gk ak s1 log0 d1 1 4004 W4) := hc4
  have HQ : Hid (CLoc F3 W4 A4 #[.bool false, .int .u16 1] 31 ∧ CLoc F3 W4 A5 PB0 34) := ⟨q44, q5⟩
  refine wp_region_held_drew (S := fun W => Row W A4 #[.bool false, .int .u16 1] 31) (by kernel_rfl) q44.1 fun hS => ?_
  have hb4 : Below W4.heap.size W4 W4.drew := (Below.refl _ _).drew
  clear hc4 q5 q44
  generalize W4.drew = W4d at hS hb4 ⊢
  refine tkH (i := 0) (v := .pointer (some ⟨gc, 0, none⟩)) rfl (by kernel_rfl) (fun _ _ _ h => h) (Or.inl ⟨by rfl, fun w _ => by rfl⟩) hS ?_
  try simp only [Act.put, nz]
  refine tkH (i := 1) (v := .agg #[.bool false, .int .u16 1]) rfl (by kernel_rfl) (fun _ _ _ h => h) (yields_cells (by rfl) 31 (.tmp 4) rfl A4 rfl 31 #[.bool false, .int .u16 1] (fun w h => h) 2 Try.underlying31 rfl size31 rfl) hS ?_
  try simp only [Act.put, nz]
  refine tkH (i := 2) (v := .agg #[.bool false, .int .u16 1]) rfl (by kernel_rfl) (fun _ _ _ h => h) (yields_cells (by rfl) 31 (.tmp 4) rfl A4 rfl 31 #[.bool false, .int .u16 1] (fun w h => h) 2 Try.underlying31 rfl size31 rfl) hS ?_
  try simp only [Act.put, nz]
  refine wpAnyH_ready (rs := [3]) (by kernel_rfl) (by simp) ?_
  refine (AllReadyH.cons rfl (fun K hK => ?_) AllReadyH.nil)
  have hfl := HFL.out W4d
  go_simp
  go_at_call 19
  refine Calls.mono hfl ?_
  clear hfl
  rintro e W5 ⟨he, hb5⟩
  obtain rfl := he
  have hb45 := hb4.trans (hb5.mono hb4.size)
  refine hK.out _ _ (hS.below hb5 hS.lt) fun hS => ?_
  try simp only [Act.put, nz]
  clear hb5 hb4
  refine wpAnyH_ready (rs := [4]) (by kernel_rfl) (by simp) ?_
  refine (AllReadyH.cons rfl (fun K hK => ?_) AllReadyH.nil)
  have hpu : Calls Try.prog 18 #[.pointer (some ⟨gc, 0, none⟩), .agg #[.bool false, .int .u16 1], .agg PB1] W5 fun e w' => e = .returned (.int .i64 0) ∧ CStep W5 F3 gc gd gl gk ak (putS s1 false 1 awkP) log0 d1 1 4004 w' := by
    have := cput_any (HC4.out.below hb45).2.1 false 1 wfu1 awkP (fillP_length _ _ _ _) (fillP_bytes _ _ _ _)
    rw [awk_put HS1.out.2.1 HS1.out.2.2.1 HS1.out.2.2.2.1 HS1.out.2.2.2.2.1, HPB1.out] at this
    exact this
  go_simp
  go_at_call 18
  refine Calls.mono hpu ?_
  clear hpu
  rintro e W6 ⟨he, hst6⟩
  obtain rfl := he
  obtain ⟨F6, hc6, tr6⟩ := (HC4.out.below hb45).step hst6
  have q46 := (HQ.out.1.below hb45).tr tr6
  have q56 := (HQ.out.2.below hb45).tr tr6
  have HS6 : Hid (CS w F6 gc gd gl gk ak (putS s1 false 1 awkP) log0 d1 1 4004 W6 ∧ CLoc F6 W6 A4 #[.bool false, .int .u16 1] 31 ∧ CLoc F6 W6 A5 PB0 34) := ⟨hc6, q46, q56⟩
  refine hK.out _ _ q46.1 fun hS => ?_
  try simp only [Act.put, nz]
  clear hst6 tr6 hb45 HQ HC4
  refine tkH (i := 5) (v := .int .i64 0) rfl (by kernel_rfl) (fun _ _ _ h => h) (Or.inl ⟨by rfl, fun w _ => by rfl⟩) hS ?_
  try simp only [Act.put, nz]
  refine wpAnyH_done (by kernel_rfl) ?_ _
  have hf7 := awk7_any hc6 HS1.out.1 HS1.out.2.1 HS1.out.2.2.1 HS1.out.2.2.2.1 HS1.out.2.2.2.2.1 HS1.out.2.2.2.2.2
  rw [show Awk7 w F6 W6 gc gd gl gk ak = fun e w' => Awk7 w F6 W6 gc gd gl gk ak e w' from rfl] at hf7
  have t2 : Hid (1 = 1) := rfl
  have t3 : Hid (1 = 1) := rfl
  go_upto_region 8 with (first
    | (have hh := t2; clear hh t2; refine load_cells rfl 31 (.tmp 4) rfl A4 rfl 31 #[.bool false, .int .u16 1] q46.1 2 Try.underlying31 rfl size31 rfl ?_)
    | (have hh := hf7; clear hh; go_at_call 16; refine Calls.mono hf7 ?_; clear hf7; rintro e W7 ⟨s3, l3, d3, F7, he, hc7, tr7, k3, k4⟩; rw [HPB1.out] at he; obtain rfl := he; have HS3 : Hid (pinsC s3 false 1 = 2 ∧ cleanC s3 false 1 = false) := ⟨k3, k4⟩; clear k3 k4; have q47 := q46.tr tr7; have q57 := q56.tr tr7; have l8 : CLoc F7 (W7.alloc (.cells ZP 34)) W7.heap.size ZP 34 := hc7.newLoc _ _)
    | (have hh := t3; clear hh t3; refine store_cells rfl 34 (.tmp 8) (.tmp 41) rfl W7.heap.size PB1 rfl rfl 34 _ l8.1 224 size34 HZP.out HP1.out ho1 ?_))
  have hc8 := (hc7.alloc (.cells ZP 34)).row l8 hc7.1.size PB1
  have q8 := l8.set PB1
  have q48 := (q47.alloc (.cells ZP 34)).other (by have := q47.1.lt; omega) PB1 (g := W7.heap.size)
  have q58 := (q57.alloc (.cells ZP 34)).other (by have := q57.1.lt; omega) PB1 (g := W7.heap.size)
  clear hc7 l8 q47 q57 tr7 q46 q56 hc6
  generalize (W7.alloc (.cells ZP 34)).setRow W7.heap.size PB1 = W8 at hc8 q8 q48 q58 ⊢
  generalize W7.heap.size = A8 at q8 ⊢
  have HC8 : Hid (CS w F7 gc gd gl gk ak s3 l3 d3 2 8008 W8) := hc8
  have HPI : Hid (∀ W, Below W8.heap.size W8 W → Calls Try.prog 22 #[.pointer (some ⟨gc, 0, none⟩), .agg #[.bool false, .int .u16 1]] W fun e w' => e = .returned (.int .i64 2) ∧ Below W.heap.size W w') := fun W hb => by
    obtain ⟨fv, m, n, vl, vs, L, cA, _⟩ := (HC8.out.below hb).2.1.ex
    have := cpins_any cA HC8.out.2.1.ok false 1 wfu1
    rw [HS3.out.1] at this
    exact this
  have HCL : Hid (∀ W, Below W8.heap.size W8 W → Calls Try.prog 26 #[.pointer (some ⟨gc, 0, none⟩), .agg #[.bool false, .int .u16 1]] W fun e w' => e = .returned (.bool false) ∧ Below W.heap.size W w') := fun W hb => by
    obtain ⟨fv, m, n, vl, vs, L, cA, _⟩ := (HC8.out.below hb).2.1.ex
    have := clean_any cA HC8.out.2.1.ok false 1 wfu1
    rw [HS3.out.2] at this
    exact this
  have HBW : Hid (Below w.heap.size w W8) := hc8.1
  have a4 := q48.1
  have a5 := q58.1
  have a8 := q8.1
  clear hc8 q48 q58 q8
  refine wp_region_held_drew (S := fun w' => Row w' A4 #[.bool false, .int .u16 1] 31 ∧ Row w' A5 PB0 34 ∧ Row w' A8 PB1 34 ∧ Below W8.heap.size W8 w') (by kernel_rfl) ⟨a4, a5, a8, (Below.refl _ _).drew⟩ fun hS => ?_
  clear a4 a5 a8
  refine tkH (i := 0) (v := .int .i64 0) rfl (by kernel_rfl) (fun _ _ _ h => h) (Or.inl ⟨by rfl, fun w _ => by go_simp⟩) hS ?_
  try simp only [Act.put, nz]
  refine tkH (i := 1) (v := .bool true) rfl (by kernel_rfl) (fun _ _ _ h => h) (Or.inl ⟨by rfl, fun w _ => by go_simp⟩) hS ?_
  try simp only [Act.put, nz]
  refine tkH (i := 2) (v := .bool true) rfl (by kernel_rfl) (fun _ _ _ h => h) (Or.inl ⟨by rfl, fun w _ => by go_simp⟩) hS ?_
  try simp only [Act.put, nz]
  refine tkH (i := 3) (v := .int .i64 0) rfl (by kernel_rfl) (fun _ _ _ h => h) (Or.inl ⟨by rfl, fun w _ => by go_simp⟩) hS ?_
  try simp only [Act.put, nz]
  refine tkH (i := 4) (v := .bool true) rfl (by kernel_rfl) (fun _ _ _ h => h) (Or.inl ⟨by rfl, fun w _ => by go_simp⟩) hS ?_
  try simp only [Act.put, nz]
  refine tkH (i := 5) (v := .bool true) rfl (by kernel_rfl) (fun _ _ _ h => h) (Or.inl ⟨by rfl, fun w _ => by go_simp⟩) hS ?_
  try simp only [Act.put, nz]
  refine tkH (i := 6) (v := .bool true) rfl (by kernel_rfl) (fun _ _ _ h => h) (Or.inl ⟨by rfl, fun w _ => by go_simp⟩) hS ?_
  try simp only [Act.put, nz]
  refine tkH (i := 7) (v := .int .i64 0) rfl (by kernel_rfl) (fun _ _ _ h => h) (Or.inl ⟨by rfl, fun w _ => by go_simp⟩) hS ?_
  try simp only [Act.put, nz]
  refine tkH (i := 8) (v := .bool true) rfl (by kernel_rfl) (fun _ _ _ h => h) (Or.inl ⟨by rfl, fun w _ => by go_simp⟩) hS ?_
  try simp only [Act.put, nz]
  refine tkH (i := 9) (v := .bool true) rfl (by kernel_rfl) (fun _ _ _ h => h) (Or.inl ⟨by rfl, fun w _ => by go_simp⟩) hS ?_
  try simp only [Act.put, nz]
  refine tkH (i := 10) (v := .bool true) rfl (by kernel_rfl) (fun _ _ _ h => h) (Or.inl ⟨by rfl, fun w _ => by go_simp⟩) hS ?_
  try simp only [Act.put, nz]
  refine tkH (i := 11) (v := .agg PB0) rfl (by kernel_rfl) (fun _ _ _ h => h) (yields_cells (by rfl) 34 (.tmp 5) rfl A5 rfl 34 PB0 (fun w h => h.2.1) 224 Try.underlying34 rfl size34 HP0.out) hS ?_
  try simp only [Act.put, nz]
  refine tkH (i := 12) (v := .agg #[.bool false, .int .u16 1]) rfl (by kernel_rfl) (fun _ _ _ h => h) (yields_cells (by rfl) 31 (.tmp 4) rfl A4 rfl 31 #[.bool false, .int .u16 1] (fun w h => h.1) 2 Try.underlying31 rfl size31 rfl) hS ?_
  try simp only [Act.put, nz]
  refine wpAnyH_ready (rs := [13]) (by kernel_rfl) (by simp) ?_
  refine AllReadyH.cons rfl (fun K hK => ?_) AllReadyH.nil
  go_simp
  go_at_call 15
  refine Calls.mono (HBL.out _) ?_
  rintro e wc ⟨rfl, hcb⟩
  refine hK.out _ _ (⟨hS.1.below hcb hS.1.lt, hS.2.1.below hcb hS.2.1.lt, hS.2.2.1.below hcb hS.2.2.1.lt, hS.2.2.2.trans (hcb.mono hS.2.2.2.size)⟩) fun hS => ?_
  try simp only [Act.put, nz]
  clear hcb
  refine tkH (i := 14) (v := .bool true) rfl (by kernel_rfl) (fun _ _ _ h => h) (yields_eq (by rfl) 34 34 (.tmp 54) (.tmp 56) rfl PB0 PB0 rfl rfl Try.eqGuardType34 true HEQ0.out) hS ?_
  try simp only [Act.put, nz]
  refine tkH (i := 15) (v := .bool true) rfl (by kernel_rfl) (fun _ _ _ h => h) (Or.inl ⟨by rfl, fun w _ => by go_simp⟩) hS ?_
  try simp only [Act.put, nz]
  refine tkH (i := 16) (v := .bool true) rfl (by kernel_rfl) (fun _ _ _ h => h) (Or.inl ⟨by rfl, fun w _ => by go_simp⟩) hS ?_
  try simp only [Act.put, nz]
  refine tkH (i := 17) (v := .agg PB1) rfl (by kernel_rfl) (fun _ _ _ h => h) (yields_cells (by rfl) 34 (.tmp 8) rfl A8 rfl 34 PB1 (fun w h => h.2.2.1) 224 Try.underlying34 rfl size34 HP1.out) hS ?_
  try simp only [Act.put, nz]
  refine tkH (i := 18) (v := .agg #[.bool false, .int .u16 1]) rfl (by kernel_rfl) (fun _ _ _ h => h) (yields_cells (by rfl) 31 (.tmp 4) rfl A4 rfl 31 #[.bool false, .int .u16 1] (fun w h => h.1) 2 Try.underlying31 rfl size31 rfl) hS ?_
  try simp only [Act.put, nz]
  refine wpAnyH_ready (rs := [19]) (by kernel_rfl) (by simp) ?_
  refine AllReadyH.cons rfl (fun K hK => ?_) AllReadyH.nil
  go_simp
  go_at_call 19
  refine Calls.mono (HFL.out _) ?_
  rintro e w2_19 ⟨rfl, hcb⟩
  refine hK.out _ _ (⟨hS.1.below hcb hS.1.lt, hS.2.1.below hcb hS.2.1.lt, hS.2.2.1.below hcb hS.2.2.1.lt, hS.2.2.2.trans (hcb.mono hS.2.2.2.size)⟩) fun hS => ?_
  try simp only [Act.put, nz]
  clear hcb
  refine tkH (i := 20) (v := .bool true) rfl (by kernel_rfl) (fun _ _ _ h => h) (yields_eq (by rfl) 34 34 (.tmp 60) (.tmp 62) rfl PB1 PB1 rfl rfl Try.eqGuardType34 true HEQ1.out) hS ?_
  try simp only [Act.put, nz]
  refine tkH (i := 21) (v := .bool true) rfl (by kernel_rfl) (fun _ _ _ h => h) (Or.inl ⟨by rfl, fun w _ => by go_simp⟩) hS ?_
  try simp only [Act.put, nz]
  refine tkH (i := 22) (v := .bool true) rfl (by kernel_rfl) (fun _ _ _ h => h) (Or.inl ⟨by rfl, fun w _ => by go_simp⟩) hS ?_
  try simp only [Act.put, nz]
  refine tkH (i := 23) (v := .pointer (some ⟨gc, 0, none⟩)) rfl (by kernel_rfl) (fun _ _ _ h => h) (Or.inl ⟨by rfl, fun w _ => by go_simp⟩) hS ?_
  try simp only [Act.put, nz]
  refine tkH (i := 24) (v := .agg #[.bool false, .int .u16 1]) rfl (by kernel_rfl) (fun _ _ _ h => h) (yields_cells (by rfl) 31 (.tmp 4) rfl A4 rfl 31 #[.bool false, .int .u16 1] (fun w h => h.1) 2 Try.underlying31 rfl size31 rfl) hS ?_
  try simp only [Act.put, nz]
  refine wpAnyH_ready (rs := [25]) (by kernel_rfl) (by simp) ?_
  refine AllReadyH.cons rfl (fun K hK => ?_) AllReadyH.nil
  go_simp
  go_at_call 22
  refine Calls.mono (HPI.out _ hS.2.2.2) ?_
  rintro e w3_25 ⟨rfl, hcb⟩
  refine hK.out _ _ (⟨hS.1.below hcb hS.1.lt, hS.2.1.below hcb hS.2.1.lt, hS.2.2.1.below hcb hS.2.2.1.lt, hS.2.2.2.trans (hcb.mono hS.2.2.2.size)⟩) fun hS => ?_
  try simp only [Act.put, nz]
  clear hcb
  refine tkH (i := 26) (v := .bool true) rfl (by kernel_rfl) (fun _ _ _ h => h) (Or.inl ⟨by rfl, fun w _ => by go_simp⟩) hS ?_
  try simp only [Act.put, nz]
  refine tkH (i := 27) (v := .bool true) rfl (by kernel_rfl) (fun _ _ _ h => h) (Or.inl ⟨by rfl, fun w _ => by go_simp⟩) hS ?_
  try simp only [Act.put, nz]
  refine tkH (i := 28) (v := .bool true) rfl (by kernel_rfl) (fun _ _ _ h => h) (Or.inl ⟨by rfl, fun w _ => by go_simp⟩) hS ?_
  try simp only [Act.put, nz]
  refine tkH (i := 29) (v := .pointer (some ⟨gc, 0, none⟩)) rfl (by kernel_rfl) (fun _ _ _ h => h) (Or.inl ⟨by rfl, fun w _ => by go_simp⟩) hS ?_
  try simp only [Act.put, nz]
  refine tkH (i := 30) (v := .agg #[.bool false, .int .u16 1]) rfl (by kernel_rfl) (fun _ _ _ h => h) (yields_cells (by rfl) 31 (.tmp 4) rfl A4 rfl 31 #[.bool false, .int .u16 1] (fun w h => h.1) 2 Try.underlying31 rfl size31 rfl) hS ?_
  try simp only [Act.put, nz]
  refine wpAnyH_ready (rs := [31]) (by kernel_rfl) (by simp) ?_
  refine AllReadyH.cons rfl (fun K hK => ?_) AllReadyH.nil
  go_simp
  go_at_call 26
  refine Calls.mono (HCL.out _ hS.2.2.2) ?_
  rintro e w4_31 ⟨rfl, hcb⟩
  refine hK.out _ _ (⟨hS.1.below hcb hS.1.lt, hS.2.1.below hcb hS.2.1.lt, hS.2.2.1.below hcb hS.2.2.1.lt, hS.2.2.2.trans (hcb.mono hS.2.2.2.size)⟩) fun hS => ?_
  try simp only [Act.put, nz]
  clear hcb
  refine tkH (i := 32) (v := .bool true) rfl (by kernel_rfl) (fun _ _ _ h => h) (Or.inl ⟨by rfl, fun w _ => by go_simp⟩) hS ?_
  try simp only [Act.put, nz]
  refine tkH (i := 33) (v := .bool true) rfl (by kernel_rfl) (fun _ _ _ h => h) (Or.inl ⟨by rfl, fun w _ => by go_simp⟩) hS ?_
  try simp only [Act.put, nz]
  refine tkH (i := 34) (v := .bool true) rfl (by kernel_rfl) (fun _ _ _ h => h) (Or.inl ⟨by rfl, fun w _ => by go_simp⟩) hS ?_
  try simp only [Act.put, nz]
  refine wpAnyH_done (by kernel_rfl) ?_ _
  go_wp2
  rw [HPP.out]
  exact ⟨rfl, HBW.out.trans (hS.2.2.2.mono HBW.out.size)⟩
end Go.Proofs.Ytehogiondcpbcaa
namespace Go.Proofs.Ytehogiondcpbcaa
open Go.ChangeShapes Go.WideShapes Go.ChangeAt Go.RowKit
open Go.Deep
set_option linter.unusedVariables false
set_option linter.unusedSimpArgs false
set_option maxRecDepth 20000
theorem laidOut : laidOutB Try.prog = true := by kernel_rfl
theorem cells34 : Try.prog.cellsOf 34 = 224 := by kernel_rfl
theorem list_choose {n : Nat} {p : Nat → Int → Prop} (h : ∀ i, i < n → ∃ x, p i x) : ∃ ys : List Int, ys.length = n ∧ ∀ i, i < n → p i (ys.getD i 0) := by
  induction n with
  | zero => exact ⟨[], rfl, fun i hi => by omega⟩
  | succ n ih =>
    obtain ⟨ys, hl, hy⟩ := ih (fun i hi => h i (by omega))
    obtain ⟨x, hx⟩ := h n (by omega)
    refine ⟨ys ++ [x], by simp [hl], fun i hi => ?_⟩
    by_cases e : i < n
    · have := hy i e
      simp only [List.getD] at this ⊢
      rw [List.getElem?_append_left (by omega)]; exact this
    · have e : i = n := by omega
      subst e
      simp only [List.getD]
      rw [List.getElem?_append_right (by omega), hl]; simpa using hx
section
variable {H : Type} {enc : TypeId × Value → H}
theorem open_list {P : Program} {w : World} {base : Nat} {spare : Nat → Bool} {held : Bool} {fuel n : Nat} {t e : TypeId} {cs : List Value} {x : DataW H × List MemPlace} (ht : P.underlying t = some (.array n e)) (he : P.underlying e = some (.int .u8)) (hc : P.cellsOf e = 1) (hl : cs.length = n)
    (hf : DataW.trod enc P w base spare held fuel t cs = some x) : ∃ ys : List Int, cs = ys.map (Value.int .u8) ∧ ys.length = n ∧ Bytes ys := by
  obtain ⟨xs, m, hfu, hx, hlx, hn, hall⟩ := DataW.trod_array ht hf
  have hstep : ∀ i, i < n → ∃ z, cs[i]? = some (.int .u8 z) ∧ (Lit.int .u8 z).wf = true := by
    intro i hi
    have h1 := hall i hi
    obtain ⟨b, hb⟩ : ∃ b, xs[i]? = some b := ⟨xs[i]'(by omega), List.getElem?_eq_getElem (by omega)⟩
    rw [hb, hc] at h1
    obtain ⟨z, hcz, rfl, hw⟩ := DataW.trod_int he h1
    refine ⟨z, ?_, hw⟩
    have := congrArg (·[0]?) hcz
    simpa [List.getElem?_take, List.getElem?_drop, Value.cells] using this
  obtain ⟨ys, hyl, hy⟩ := list_choose hstep
  refine ⟨ys, ?_, hyl, ?_⟩
  · apply List.ext_getElem?
    intro i
    by_cases hi : i < n
    · rw [(hy i hi).1, List.getElem?_map, List.getElem?_eq_getElem (by omega)]
      simp [List.getD, show i < ys.length by omega]
    · rw [List.getElem?_eq_none (by omega), List.getElem?_eq_none (by simp; omega)]
  · intro y hy'
    obtain ⟨i, hi, rfl⟩ := List.getElem_of_mem hy'
    have := bounds_u8 (hy i (by omega)).2
    simpa [List.getD, hi] using this
end
theorem cells36 : Try.prog.cellsOf 36 = 229 := by kernel_rfl
theorem cells32 : Try.prog.cellsOf 32 = 1 := by kernel_rfl
theorem cells4b : Try.prog.cellsOf 4 = 1 := by kernel_rfl
theorem bytes36 : Try.prog.bytesOf 36 = 264 := by kernel_rfl
theorem bytes3i : Try.prog.bytesOf 3 = 8 := by kernel_rfl
theorem wfu_mk {k : Int} (h : 0 ≤ k ∧ k ≤ 65535) : WfU k := by
  unfold WfU
  have e : (Lit.int .u16 k).wf = (decide ((0 : Int) ≤ k) && decide (k ≤ 65535)) := rfl
  rw [e]; simpa using h
structure XO where
  kd : Int
  u : Bool
  k : Int
  b : Int
  fs : Value
  zl : List Int
  p : List Int
def XO.cells (o : XO) : List Value := .int .i64 o.kd :: .bool o.u :: .int .u16 o.k :: .int .u8 o.b :: o.fs :: o.p.map (Value.int .u8)
structure XO.Ok (w : World) (o : XO) : Prop where
  kd : Wf o.kd
  k : 0 ≤ o.k ∧ o.k ≤ 65535
  b : 0 ≤ o.b ∧ o.b ≤ 255
  fs : Cel w o.fs (o.zl.map (.int .i64))
  zw : ∀ z ∈ o.zl, Wf z
  zl : o.zl.length * 8 ≤ 140737488355328
  p : o.p.length = 224
  pb : Bytes o.p
theorem XO.Ok.keep {w w' : World} {o : XO} (h : o.Ok w) (hb : Below w.heap.size w w') : o.Ok w' := { h with fs := h.fs.keep hb }
def XOs (w : World) (v : Value) (cs : List XO) : Prop := ∃ (oa : Option Addr) (cap : Nat), v = .slice oa cs.length cap ∧ cs.length ≤ 140737488355328 ∧ ∀ i, i < cs.length → ∃ (a : Addr) (c : XO), oa = some a ∧ cs[i]? = some c ∧ c.Ok w ∧ ∀ j u, c.cells[j]? = some u → w.cell? ((a.add (i * 229)).add j) = some u
theorem XOs.below {w w' : World} {v : Value} {cs : List XO} (h : XOs w v cs) (hb : Below w.heap.size w w') : XOs w' v cs := by
  obtain ⟨oa, cap, h1, h2, h3⟩ := h
  refine ⟨oa, cap, h1, h2, fun i hi => ?_⟩
  obtain ⟨a, c, e1, e2, ok, hc⟩ := h3 i hi
  exact ⟨a, c, e1, e2, ok.keep hb, fun j u hj => cell_keep (hc j u hj) hb⟩
section
variable {H : Type} {enc : TypeId × Value → H}
theorem open_pidl {w : World} {fuel : Nat} {l : List Value} {x : DataW H × List MemPlace} (hf' : DataW.trod enc Try.prog w 0 (fun _ => true) true fuel 31 l = some x) : ∃ (u : Bool) (no : Int), l = [.bool u, .int .u16 no] ∧ 0 ≤ no ∧ no ≤ 65535 := by
  cases fuel with
  | zero => simp [DataW.trod] at hf'
  | succ n =>
    unfold DataW.trod at hf'
    rw [Try.underlying31] at hf'
    simp only [cells31] at hf'
    by_cases hl : l.length = 2
    · match l, hl with
      | [c0, c1], _ =>
        simp [List.mapM_cons, cells4b, cells29] at hf'
        cases t0 : DataW.trod enc Try.prog w 0 (fun _ => true) true n 4 [c0] with
        | none => simp [t0] at hf'
        | some x0 =>
        cases t1 : DataW.trod enc Try.prog w 0 (fun _ => true) true n 29 [c1] with
        | none => simp [t0, t1] at hf'
        | some x1 =>
        obtain ⟨k0, e0, _⟩ := DataW.trod_bool Try.underlying4 t0
        obtain ⟨k1, e1, _, u1⟩ := DataW.trod_int Try.underlying29 t1
        simp at e0 e1
        exact ⟨k0, k1, by rw [e0, e1], bounds_u16 u1⟩
    · simp [hl] at hf'
theorem cut_five (l : List Value) (h : l.length = 229) : l = l.take 1 ++ ((l.drop 1).take 2 ++ ((l.drop 3).take 1 ++ ((l.drop 4).take 1 ++ (l.drop 5).take 224))) := by
  have e5 : (l.drop 5).take 224 = l.drop 5 := List.take_of_length_le (by rw [List.length_drop]; omega)
  have e4 : (l.drop 4).take 1 ++ l.drop 5 = l.drop 4 := by
    have := List.take_append_drop 1 (l.drop 4); rw [List.drop_drop] at this; exact this
  have e3 : (l.drop 3).take 1 ++ l.drop 4 = l.drop 3 := by
    have := List.take_append_drop 1 (l.drop 3); rw [List.drop_drop] at this; exact this
  have e1 : (l.drop 1).take 2 ++ l.drop 3 = l.drop 1 := by
    have := List.take_append_drop 2 (l.drop 1); rw [List.drop_drop] at this; exact this
  rw [e5, e4, e3, e1, List.take_append_drop]
theorem open_xo {w : World} {fuel : Nat} {l : List Value} {x : DataW H × List MemPlace} (h : DataW.trod enc Try.prog w 0 (fun _ => true) true fuel 36 l = some x) (hs : (x.1.weights Try.prog 36).all (· ≤ reachBytes) = true) :
    ∃ o : XO, l = o.cells ∧ o.Ok w := by
  cases fuel with
  | zero => simp [DataW.trod] at h
  | succ n =>
    unfold DataW.trod at h
    rw [Try.underlying36] at h
    simp only [cells36] at h
    by_cases hl : l.length = 229
    · have hcut := cut_five l hl
      have hl1 : (l.take 1).length = 1 := by rw [List.length_take]; omega
      have hl4 : ((l.drop 4).take 1).length = 1 := by rw [List.length_take, List.length_drop]; omega
      have hl5 : ((l.drop 5).take 224).length = 224 := by rw [List.length_take, List.length_drop]; omega
      simp only [hl, if_true, List.mapM_cons, List.mapM_nil, cells3, cells31, cells5, cells32, cells34, List.drop_zero] at h
      cases t0 : DataW.trod enc Try.prog w 0 (fun _ => true) true n 3 (l.take 1) with
      | none => simp [-List.drop_one, t0] at h
      | some x0 =>
      cases t1 : DataW.trod enc Try.prog w 0 (fun _ => true) true n 31 ((l.drop 1).take 2) with
      | none => simp [-List.drop_one, t0, t1] at h
      | some x1 =>
      cases t2 : DataW.trod enc Try.prog w 0 (fun _ => true) true n 5 ((l.drop 3).take 1) with
      | none => simp [-List.drop_one, t0, t1, t2] at h
      | some x2 =>
      cases t3 : DataW.trod enc Try.prog w 0 (fun _ => true) true n 32 ((l.drop 4).take 1) with
      | none => simp [-List.drop_one, t0, t1, t2, t3] at h
      | some x3 =>
      cases t4 : DataW.trod enc Try.prog w 0 (fun _ => true) true n 34 ((l.drop 5).take 224) with
      | none => simp [-List.drop_one, t0, t1, t2, t3, t4] at h
      | some x4 =>
      simp [-List.drop_one, t0, t1, t2, t3, t4] at h
      subst h
      obtain ⟨k0, e0, _, w0⟩ := DataW.trod_int Try.underlying3 t0
      obtain ⟨u, no, e1, w1⟩ := open_pidl t1
      obtain ⟨k2, e2, _, w2⟩ := DataW.trod_int Try.underlying5 t2
      obtain ⟨ys, e4, hyl, hyb⟩ := open_list Try.underlying34 Try.underlying5 cells5 hl5 t4
      have hs3 : (x3.1.weights Try.prog 32).all (· ≤ reachBytes) = true := by
        rw [List.all_eq_true] at hs ⊢
        intro m hm
        refine hs m ?_
        simp [DataW.weights, Try.underlying36, DataW.weightsEach, hm]
      obtain ⟨c3, hc3⟩ : ∃ c3, (l.drop 4).take 1 = [c3] := by
        match q : (l.drop 4).take 1, hl4 with
        | [c], _ => exact ⟨c, rfl⟩
      have r3 : ∃ zl : List Int, Cel w c3 (zl.map (.int .i64)) ∧ (∀ z ∈ zl, Wf z) ∧ zl.length * 8 ≤ 140737488355328 := by
        rw [hc3] at t3
        rcases open_ints Try.underlying32 Try.underlying3 cells3 t3 with ⟨q, _⟩ | ⟨a, len, cap, zs, q, _, hle, _, hzl, hx, hc, hw⟩
        · simp at q
          exact ⟨[], Or.inl ⟨q, rfl⟩, fun z hz => (by cases hz), by simp⟩
        · simp at q hzl
          have hlz : (zs.take len).length = len := by simp; omega
          refine ⟨zs.take len, Or.inr ⟨a, cap, by rw [q, List.length_map, hlz], fun j u hj => ?_⟩, fun z hz => hw z (List.mem_of_mem_take hz), ?_⟩
          · rw [List.getElem?_map, List.getElem?_take] at hj
            by_cases hjl : j < len
            · rw [if_pos hjl, List.getElem?_eq_getElem (by omega)] at hj
              simp at hj
              rw [hc j (by omega), ← hj]
              simp [List.getD, show j < zs.length by omega]
            · rw [if_neg hjl] at hj; simp at hj
          · rw [hx] at hs3
            simp [DataW.weights, Try.underlying32, bytes3i, lits] at hs3
            have := hs3.1
            unfold reachBytes at this
            omega
      obtain ⟨zl, a3, a3w, a3l⟩ := r3
      have e0' : l.take 1 = [.int .i64 k0] := e0
      have e2' : (l.drop 3).take 1 = [.int .u8 k2] := e2
      rw [e0', e1, e2', hc3, e4] at hcut
      exact ⟨⟨k0, u, no, k2, c3, zl, ys⟩, hcut, ⟨w0, w1, bounds_u8 w2, a3, a3w, a3l, hyl, hyb⟩⟩
    · simp [hl] at h
theorem weights_all {P : Program} {e : TypeId} : ∀ {ds : List (DataW H)} {d : DataW H}, d ∈ ds → ∀ m ∈ d.weights P e, m ∈ DataW.weightsAll P e ds
  | [], d, h, _, _ => nomatch h
  | x :: r, d, h, m, hm => by
    unfold DataW.weightsAll
    rcases List.mem_cons.1 h with rfl | h
    · exact List.mem_append_left _ hm
    · exact List.mem_append_right _ (weights_all h m hm)
theorem open_xos {w : World} {base : Nat} {v : Value} {d : DataW H} {p : List MemPlace} (hv : Value.okWide Try.prog w .any base 22 v) (h : DataW.Trod enc Try.prog w 0 (fun _ => true) true 22 v d p) (hs : (d.weights Try.prog 22).all (· ≤ reachBytes) = true) :
    ∃ cs : List XO, XOs w v cs := by
  obtain ⟨fuel, hf⟩ := h
  obtain ⟨av, lv, cv, rfl⟩ := okWide_slice Try.underlying22 hv
  rcases open_slice Try.underlying22 hf with ⟨q, _⟩ | ⟨a, len, cap, m, n, D, Pl, q, _, hle, _, hm, hx, hel⟩
  · refine ⟨[], none, 0, ?_, by simp, fun i hi => by simp at hi⟩
    simpa [Value.cells] using q
  · have q' : Value.slice av lv cv = .slice (some a) len cap := by simpa [Value.cells] using q
    rw [q']
    simp only [if_true] at hm
    subst hm
    simp only [Prod.mk.injEq] at hx
    obtain ⟨rfl, _⟩ := hx
    have hs' : ∀ x ∈ (DataW.slice ((List.range len).map D) ((List.range (m - len)).map fun j => D (len + j))).weights Try.prog 22, x ≤ reachBytes := fun x hx => by
      have := List.all_eq_true.1 hs x hx
      simpa using this
    have hlen : len ≤ 140737488355328 := by
      have := hs' _ (by simp only [DataW.weights, Try.underlying22]; exact List.mem_cons_self ..)
      rw [bytes36] at this
      simp at this
      unfold reachBytes at this
      omega
    have hw : ∀ i, i < len → ((D i).weights Try.prog 36).all (· ≤ reachBytes) = true := fun i hi => by
      refine List.all_eq_true.2 fun x hx => ?_
      have := hs' x (by
        simp only [DataW.weights, Try.underlying22]
        refine List.mem_cons_of_mem _ (List.mem_append_left _ ?_)
        exact weights_all (List.mem_map.2 ⟨i, List.mem_range.2 hi, rfl⟩) x hx)
      simpa using this
    have hc : ∀ i, ∃ c : XO, i < len → c.Ok w ∧ ∀ j u, c.cells[j]? = some u → w.cell? ((a.add (i * 229)).add j) = some u := fun i => by
      by_cases hi : i < len
      · obtain ⟨cs', h1, h2⟩ := hel i (by omega)
        rw [cells36] at h1
        obtain ⟨c, rfl, ok⟩ := open_xo h2 (hw i hi)
        obtain ⟨_, hl5, hcell⟩ := World.cells?_some h1
        refine ⟨c, fun _ => ⟨ok, fun j u hj => ?_⟩⟩
        have hj5 : j < 229 := by
          have := (List.getElem?_eq_some_iff.1 hj).1
          have hq : c.cells.length = 229 := by unfold XO.cells; simp [ok.p]
          omega
        rw [hcell j hj5]; exact hj
      · exact ⟨⟨0, false, 0, 0, .nilIface, [], []⟩, fun q => absurd q hi⟩
    obtain ⟨f, hf'⟩ := Classical.axiomOfChoice hc
    refine ⟨(List.range len).map f, some a, m, by simp, by simpa using hlen, fun i hi => ?_⟩
    have hi' : i < len := by simpa using hi
    exact ⟨a, f i, rfl, by simp [hi'], (hf' i hi').1, (hf' i hi').2⟩
end
end Go.Proofs.Ytehogiondcpbcaa
