/-
  Proved here: the fixed run: a page that was put is fetched again. Plain facts on the statements' arguments: data pages and payloads, as values that came in. Plain facts: the statements' arguments: pages' names, blocks, calls of a cache, as values that came in. Plain facts: a block that is not its page is told as torn.
-/
import Derived.Test.YtehogiondcpbcaaJq35
import Derived.Test.YtehogiondcpbcaaJq21
import Derived.Test.YtehogiondcpbcaaJq23
import Derived.SizedLaws
import Derived.Deep.Grids
import Derived.Deep.Slices
import Derived.Lib.SmallJoins
import Derived.Carry
import Derived.Test.YtehogiondcpbcaaJq05
import Derived.Test.YtehogiondcpbcaaJq29
import Derived.Test.YtehogiondcpbcaaJq02
namespace Go.Proofs.Ytehogiondcpbcaa
open Go.ChangeShapes Go.WideShapes Go.ChangeAt Go.RowKit
set_option linter.unusedVariables false
set_option linter.unusedSimpArgs false
set_option maxRecDepth 20000
theorem zero31 (w : World) : (zeroValue 31).run Try.prog w = .ok (.agg #[.bool false, .int .u16 0]) w := (zero_of_info (P := Try.prog) (t := 31) (v := .agg #[.bool false, .int .u16 0]) (n := 2) (by kernel_rfl)).1 w
theorem fillP_bytes (u : Bool) (k b lsn : Int) : Bytes (fillP u k b lsn) := by
  unfold fillP
  split
  · exact putU_bytes k lsn [fO b]
  · exact putD_bytes _ _ (zs_bytes _)
theorem wfu1 : WfU 1 := rfl
def Awk3 (w : World) (F2 : Nat → Prop) (W2 : World) (gc gd gl gk ak : Nat) (e : Ending) (w' : World) : Prop :=
  ∃ (s1 : Cs) (d1 : Dsk) (f : Fm) (F3 : Nat → Prop), e = .returned (.tuple #[.agg (bs (blankP false 1)), .int .i64 0]) ∧ CS w F3 gc gd gl gk ak s1 log0 d1 1 4004 w' ∧ Tr F2 W2 F3 w' ∧ d1.ops = 1 ∧ s1.fs = [f] ∧ f.un = false ∧ f.no = 1 ∧ (s1.ck[0]?).map Cl.Fr.pins = some 1 ∧ isC s1 false 1 = true
theorem awk3_any {w : World} {F : Nat → Prop} {W : World} {gc gd gl gk ak : Nat} (h : CS w F gc gd gl gk ak (newC 4 5 4) log0 (Dsk.new 60) 0 0 W) : Calls Try.prog 16 #[.pointer (some ⟨gc, 0, none⟩), .agg #[.bool false, .int .u16 1]] W fun e w' => Awk3 w F W gc gd gl gk ak e w' := by
  refine (fetch_any h.2.1 false 1 wfu1 log0_inv (by decide) (by decide) (flush_ops log0_inv _) (by decide) (by decide)).mono ?_
  rintro e w' ⟨p, E, s1, l1, d1, hf, he, hst⟩
  obtain ⟨rfl, rfl, rfl, hd, f, h1, h2, h3, h4, h5⟩ := awk_first hf
  obtain ⟨F3, k1, k2⟩ := h.step hst
  exact ⟨s1, d1, f, F3, he, k1, k2, hd, h1, h2, h3, h4, h5⟩
def Awk7 (w : World) (F2 : Nat → Prop) (W2 : World) (gc gd gl gk ak : Nat) (e : Ending) (w' : World) : Prop :=
  ∃ (s3 : Cs) (l3 : Lg) (d3 : Dsk) (F3 : Nat → Prop), e = .returned (.tuple #[.agg (bs awkP), .int .i64 0]) ∧ CS w F3 gc gd gl gk ak s3 l3 d3 2 8008 w' ∧ Tr F2 W2 F3 w' ∧ pinsC s3 false 1 = 2 ∧ cleanC s3 false 1 = false
theorem awk7_any {w : World} {F : Nat → Prop} {W : World} {gc gd gl gk ak : Nat} {s1 : Cs} {d1 : Dsk} {f : Fm} (h : CS w F gc gd gl gk ak (putS s1 false 1 awkP) log0 d1 1 4004 W) (hd : d1.ops = 1) (h1 : s1.fs = [f]) (h2 : f.un = false) (h3 : f.no = 1) (h4 : (s1.ck[0]?).map Cl.Fr.pins = some 1) (h5 : isC s1 false 1 = true) : Calls Try.prog 16 #[.pointer (some ⟨gc, 0, none⟩), .agg #[.bool false, .int .u16 1]] W fun e w' => Awk7 w F W gc gd gl gk ak e w' := by
  refine (fetch_any h.2.1 false 1 wfu1 log0_inv (by decide) (by omega) (flush_ops log0_inv _) (by decide) (by decide)).mono ?_
  rintro e w' ⟨p, E, s3, l3, d3, hf, he, hst⟩
  obtain ⟨rfl, rfl, k3, k4⟩ := awk_rest h1 h2 h3 h4 h5 hf
  obtain ⟨F3, k1, k2⟩ := h.step hst
  exact ⟨s3, l3, d3, F3, he, k1, k2, k3, k4⟩
set_option maxHeartbeats 4000000 in
theorem awake_any (w : World) : Calls Try.prog 14 #[] w fun e w' => e = .returned (.bool true) ∧ Below w.heap.size w w' := by
  obtain ⟨PP, HPP⟩ : ∃ PP : Ending → World → Prop, Hid (PP = fun e w' => e = .returned (.bool true) ∧ Below w.heap.size w w') := ⟨_, rfl⟩
  rw [← HPP.out]
  have hz34 := zero34
  have hz31 := zero31
  obtain ⟨ZP, HZPD⟩ : ∃ ZP, Hid (bs (zs 224) = ZP) := ⟨_, rfl⟩
  have HZP : Hid (ZP.size = 224) := by rw [← HZPD.out, bs_size]; exact zs_length _
  rw [HZPD.out] at hz34
  have bu := built31 1
  have hov := over_any 4 (by omega) w
  obtain ⟨PB0, HPB0⟩ : ∃ PB0, Hid (bs (blankP false 1) = PB0) := ⟨_, rfl⟩
  have HP0 : Hid (PB0.size = 224) := by rw [← HPB0.out, bs_size]; exact blankP_length _ _
  have ho0 : PB0.all (·.oneCell') = true := by rw [← HPB0.out]; exact bs_one _
  obtain ⟨PB1, HPB1⟩ : ∃ PB1, Hid (bs awkP = PB1) := ⟨_, rfl⟩
  have HP1 : Hid (PB1.size = 224) := by rw [← HPB1.out, bs_size]; exact fillP_length _ _ _ _
  have ho1 : PB1.all (·.oneCell') = true := by rw [← HPB1.out]; exact bs_one _
  have HBL : Hid (∀ W, Calls Try.prog 15 #[.agg #[.bool false, .int .u16 1]] W fun e w' => e = .returned (.agg PB0) ∧ Below W.heap.size W w') := fun W => by rw [← HPB0.out]; exact blank_any false 1 W (by decide)
  have HFL : Hid (∀ W, Calls Try.prog 19 #[.agg #[.bool false, .int .u16 1], .int .u8 7, .int .u64 3] W fun e w' => e = .returned (.agg PB1) ∧ Below W.heap.size W w') := fun W => by rw [← HPB1.out]; exact fill_any false 1 7 3 wfu1 (by decide) (by decide) W
  have HEQ0 : Hid (∀ w, (Op.equalIn 10000 34 (.agg PB0) (.agg PB0)).run Try.prog w = .ok true w) := fun w => by
    have := equal34 (blankP false 1) (blankP false 1) (blankP_length _ _) (blankP_length _ _) w
    rw [HPB0.out] at this
    rw [this, decide_eq_true rfl]
  have HEQ1 : Hid (∀ w, (Op.equalIn 10000 34 (.agg PB1) (.agg PB1)).run Try.prog w = .ok true w) := fun w => by
    have := equal34 awkP awkP (fillP_length _ _ _ _) (fillP_length _ _ _ _) w
    rw [HPB1.out] at this
    rw [this, decide_eq_true rfl]
  have t0 : Hid (1 = 1) := rfl
  have t1 : Hid (1 = 1) := rfl
  have t2 : Hid (1 = 1) := rfl
  have t3 : Hid (1 = 1) := rfl
  have t4 : Hid (1 = 1) := rfl
  go_enter Try.func14, Try.ntmps14
  go_upto_region 5 with (first
    | (have hh := hov; clear hh; go_at_call 8; refine Calls.mono hov ?_; clear hov; rintro e W1 ⟨gd, gl, gc, gk, ak, F1, he, hb1, c1, hF1⟩; obtain rfl := he; have hc1 : CS w F1 gc gd gl gk ak (newC 4 5 4) log0 (Dsk.new 60) 0 0 W1 := ⟨hb1, c1, hF1⟩; have l4 : CLoc F1 (W1.alloc (.cells #[.bool false, .int .u16 0] 31)) W1.heap.size #[.bool false, .int .u16 0] 31 := hc1.newLoc _ _)
    | (have hh := t0; clear hh t0; refine build_parts rfl 31 #[(1, .const (.int .u16 1))] rfl [(1, .int .u16 1)] rfl _ bu ?_)
    | (have hh := t1; clear hh t1; refine store_cells rfl 31 (.tmp 4) (.tmp 25) rfl W1.heap.size #[.bool false, .int .u16 1] rfl rfl 31 _ l4.1 2 size31 rfl rfl (by simp [Value.oneCell']) ?_))
  have hc2 := (hc1.alloc (.cells #[.bool false, .int .u16 0] 31)).row l4 hb1.size #[.bool false, .int .u16 1]
  have q4 := l4.set #[.bool false, .int .u16 1]
  have HA4 : Hid (w.heap.size ≤ W1.heap.size) := hb1.size
  clear hc1 l4 c1 hF1 hb1
  generalize (W1.alloc (.cells #[.bool false, .int .u16 0] 31)).setRow W1.heap.size #[.bool false, .int .u16 1] = W2 at hc2 q4 ⊢
  generalize W1.heap.size = A4 at q4 HA4 ⊢
  have hf3 := awk3_any hc2
  rw [show Awk3 w F1 W2 gc gd gl gk ak = fun e w' => Awk3 w F1 W2 gc gd gl gk ak e w' from rfl] at hf3
  go_upto_region 6 with (first
    | (have hh := t2; clear hh t2; refine load_cells rfl 31 (.tmp 4) rfl A4 rfl 31 #[.bool false, .int .u16 1] q4.1 2 Try.underlying31 rfl size31 rfl ?_)
    | (have hh := hf3; clear hh; go_at_call 16; refine Calls.mono hf3 ?_; clear hf3; rintro e W3 ⟨s1, d1, f, F3, he, hc3, tr3, hd1, k1, k2, k3, k4, k5⟩; rw [HPB0.out] at he; obtain rfl := he; have q43 := q4.tr tr3; have HS1 : Hid (d1.ops = 1 ∧ s1.fs = [f] ∧ f.un = false ∧ f.no = 1 ∧ (s1.ck[0]?).map Cl.Fr.pins = some 1 ∧ isC s1 false 1 = true) := ⟨hd1, k1, k2, k3, k4, k5⟩; clear hd1 k1 k2 k3 k4 k5; have l5 : CLoc F3 (W3.alloc (.cells ZP 34)) W3.heap.size ZP 34 := hc3.newLoc _ _)
    | (have hh := t3; clear hh t3; refine store_cells rfl 34 (.tmp 5) (.tmp 30) rfl W3.heap.size PB0 rfl rfl 34 _ l5.1 224 size34 HZP.out HP0.out ho0 ?_))
  have hc4 := (hc3.alloc (.cells ZP 34)).row l5 hc3.1.size PB0
  have q5 := l5.set PB0
  have q44 := (q43.alloc (.cells ZP 34)).other (by have := q43.1.lt; omega) PB0 (g := W3.heap.size)
  have HA5 : Hid (w.heap.size ≤ W3.heap.size) := hc3.1.size
  have HA45 : Hid (A4 < W3.heap.size) := q43.1.lt
  clear hc3 l5 q43 tr3 q4 hc2
  generalize (W3.alloc (.cells ZP 34)).setRow W3.heap.size PB0 = W4 at hc4 q5 q44 ⊢
  generalize W3.heap.size = A5 at q5 HA5 HA45 ⊢
  have HC4 : Hid (CS w F3 gc gd gl gk ak s1 log0 d1 1 4004 W4) := hc4
  have HQ : Hid (CLoc F3 W4 A4 #[.bool false, .int .u16 1] 31 ∧ CLoc F3 W4 A5 PB0 34) := ⟨q44, q5⟩
  refine wp_region_held_drew (S := fun W => Row W A4 #[.bool false, .int .u16 1] 31) (by kernel_rfl) q44.1 fun hS => ?_
  have hb4 : Below W4.heap.size W4 W4.drew := (Below.refl _ _).drew
  clear hc4 q5 q44
  generalize W4.drew = W4d at hS hb4 ⊢
  refine tkH (i := 0) (v := .pointer (some ⟨gc, 0, none⟩)) rfl (by kernel_rfl) (fun _ _ _ h => h) (Or.inl ⟨by rfl, fun w _ => by rfl⟩) hS ?_
  try simp only [Act.put, nz0, nz1, nz2, nz3, nz4, nz5]
  refine tkH (i := 1) (v := .agg #[.bool false, .int .u16 1]) rfl (by kernel_rfl) (fun _ _ _ h => h) (yields_cells (by rfl) 31 (.tmp 4) rfl A4 rfl 31 #[.bool false, .int .u16 1] (fun w h => h) 2 Try.underlying31 rfl size31 rfl) hS ?_
  try simp only [Act.put, nz0, nz1, nz2, nz3, nz4, nz5]
  refine tkH (i := 2) (v := .agg #[.bool false, .int .u16 1]) rfl (by kernel_rfl) (fun _ _ _ h => h) (yields_cells (by rfl) 31 (.tmp 4) rfl A4 rfl 31 #[.bool false, .int .u16 1] (fun w h => h) 2 Try.underlying31 rfl size31 rfl) hS ?_
  try simp only [Act.put, nz0, nz1, nz2, nz3, nz4, nz5]
  refine wpAnyH_ready (rs := [3]) (by kernel_rfl) (by simp) ?_
  refine (AllReadyH.cons rfl (fun K hK => ?_) AllReadyH.nil)
  have hfl := HFL.out W4d
  go_simp
  go_at_call 19
  refine Calls.mono hfl ?_
  clear hfl
  rintro e W5 ⟨he, hb5⟩
  obtain rfl := he
  have hb45 := hb4.trans (hb5.mono hb4.size)
  refine hK.out _ _ (hS.below hb5 hS.lt) fun hS => ?_
  try simp only [Act.put, nz0, nz1, nz2, nz3, nz4, nz5]
  clear hb5 hb4
  refine wpAnyH_ready (rs := [4]) (by kernel_rfl) (by simp) ?_
  refine (AllReadyH.cons rfl (fun K hK => ?_) AllReadyH.nil)
  have hpu : Calls Try.prog 18 #[.pointer (some ⟨gc, 0, none⟩), .agg #[.bool false, .int .u16 1], .agg PB1] W5 fun e w' => e = .returned (.int .i64 0) ∧ CStep W5 F3 gc gd gl gk ak (putS s1 false 1 awkP) log0 d1 1 4004 w' := by
    have := cput_any (HC4.out.below hb45).2.1 false 1 wfu1 awkP (fillP_length _ _ _ _) (fillP_bytes _ _ _ _)
    rw [awk_put HS1.out.2.1 HS1.out.2.2.1 HS1.out.2.2.2.1 HS1.out.2.2.2.2.1, HPB1.out] at this
    exact this
  go_simp
  go_at_call 18
  refine Calls.mono hpu ?_
  clear hpu
  rintro e W6 ⟨he, hst6⟩
  obtain rfl := he
  obtain ⟨F6, hc6, tr6⟩ := (HC4.out.below hb45).step hst6
  have q46 := (HQ.out.1.below hb45).tr tr6
  have q56 := (HQ.out.2.below hb45).tr tr6
  have HS6 : Hid (CS w F6 gc gd gl gk ak (putS s1 false 1 awkP) log0 d1 1 4004 W6 ∧ CLoc F6 W6 A4 #[.bool false, .int .u16 1] 31 ∧ CLoc F6 W6 A5 PB0 34) := ⟨hc6, q46, q56⟩
  refine hK.out _ _ q46.1 fun hS => ?_
  try simp only [Act.put, nz0, nz1, nz2, nz3, nz4, nz5]
  clear hst6 tr6 hb45 HQ HC4
  refine tkH (i := 5) (v := .int .i64 0) rfl (by kernel_rfl) (fun _ _ _ h => h) (Or.inl ⟨by rfl, fun w _ => by rfl⟩) hS ?_
  try simp only [Act.put, nz0, nz1, nz2, nz3, nz4, nz5]
  refine wpAnyH_done (by kernel_rfl) ?_ _
  have hf7 := awk7_any hc6 HS1.out.1 HS1.out.2.1 HS1.out.2.2.1 HS1.out.2.2.2.1 HS1.out.2.2.2.2.1 HS1.out.2.2.2.2.2
  rw [show Awk7 w F6 W6 gc gd gl gk ak = fun e w' => Awk7 w F6 W6 gc gd gl gk ak e w' from rfl] at hf7
  have t2 : Hid (1 = 1) := rfl
  have t3 : Hid (1 = 1) := rfl
  go_upto_region 8 with (first
    | (have hh := t2; clear hh t2; refine load_cells rfl 31 (.tmp 4) rfl A4 rfl 31 #[.bool false, .int .u16 1] q46.1 2 Try.underlying31 rfl size31 rfl ?_)
    | (have hh := hf7; clear hh; go_at_call 16; refine Calls.mono hf7 ?_; clear hf7; rintro e W7 ⟨s3, l3, d3, F7, he, hc7, tr7, k3, k4⟩; rw [HPB1.out] at he; obtain rfl := he; have HS3 : Hid (pinsC s3 false 1 = 2 ∧ cleanC s3 false 1 = false) := ⟨k3, k4⟩; clear k3 k4; have q47 := q46.tr tr7; have q57 := q56.tr tr7; have l8 : CLoc F7 (W7.alloc (.cells ZP 34)) W7.heap.size ZP 34 := hc7.newLoc _ _)
    | (have hh := t3; clear hh t3; refine store_cells rfl 34 (.tmp 8) (.tmp 41) rfl W7.heap.size PB1 rfl rfl 34 _ l8.1 224 size34 HZP.out HP1.out ho1 ?_))
  have hc8 := (hc7.alloc (.cells ZP 34)).row l8 hc7.1.size PB1
  have q8 := l8.set PB1
  have q48 := (q47.alloc (.cells ZP 34)).other (by have := q47.1.lt; omega) PB1 (g := W7.heap.size)
  have q58 := (q57.alloc (.cells ZP 34)).other (by have := q57.1.lt; omega) PB1 (g := W7.heap.size)
  clear hc7 l8 q47 q57 tr7 q46 q56 hc6
  generalize (W7.alloc (.cells ZP 34)).setRow W7.heap.size PB1 = W8 at hc8 q8 q48 q58 ⊢
  generalize W7.heap.size = A8 at q8 ⊢
  have HC8 : Hid (CS w F7 gc gd gl gk ak s3 l3 d3 2 8008 W8) := hc8
  have HPI : Hid (∀ W, Below W8.heap.size W8 W → Calls Try.prog 22 #[.pointer (some ⟨gc, 0, none⟩), .agg #[.bool false, .int .u16 1]] W fun e w' => e = .returned (.int .i64 2) ∧ Below W.heap.size W w') := fun W hb => by
    obtain ⟨fv, m, n, vl, vs, L, cA, _⟩ := (HC8.out.below hb).2.1.ex
    have := cpins_any cA HC8.out.2.1.ok false 1 wfu1
    rw [HS3.out.1] at this
    exact this
  have HCL : Hid (∀ W, Below W8.heap.size W8 W → Calls Try.prog 26 #[.pointer (some ⟨gc, 0, none⟩), .agg #[.bool false, .int .u16 1]] W fun e w' => e = .returned (.bool false) ∧ Below W.heap.size W w') := fun W hb => by
    obtain ⟨fv, m, n, vl, vs, L, cA, _⟩ := (HC8.out.below hb).2.1.ex
    have := clean_any cA HC8.out.2.1.ok false 1 wfu1
    rw [HS3.out.2] at this
    exact this
  have HBW : Hid (Below w.heap.size w W8) := hc8.1
  have a4 := q48.1
  have a5 := q58.1
  have a8 := q8.1
  clear hc8 q48 q58 q8
  refine wp_region_held_drew (S := fun w' => Row w' A4 #[.bool false, .int .u16 1] 31 ∧ Row w' A5 PB0 34 ∧ Row w' A8 PB1 34 ∧ Below W8.heap.size W8 w') (by kernel_rfl) ⟨a4, a5, a8, (Below.refl _ _).drew⟩ fun hS => ?_
  clear a4 a5 a8
  refine tkH (i := 0) (v := .int .i64 0) rfl (by kernel_rfl) (fun _ _ _ h => h) (Or.inl ⟨by rfl, fun w _ => by go_simp⟩) hS ?_
  try simp only [Act.put, nz0, nz1, nz2, nz3, nz4, nz5]
  refine tkH (i := 1) (v := .bool true) rfl (by kernel_rfl) (fun _ _ _ h => h) (Or.inl ⟨by rfl, fun w _ => by go_simp⟩) hS ?_
  try simp only [Act.put, nz0, nz1, nz2, nz3, nz4, nz5]
  refine tkH (i := 2) (v := .bool true) rfl (by kernel_rfl) (fun _ _ _ h => h) (Or.inl ⟨by rfl, fun w _ => by go_simp⟩) hS ?_
  try simp only [Act.put, nz0, nz1, nz2, nz3, nz4, nz5]
  refine tkH (i := 3) (v := .int .i64 0) rfl (by kernel_rfl) (fun _ _ _ h => h) (Or.inl ⟨by rfl, fun w _ => by go_simp⟩) hS ?_
  try simp only [Act.put, nz0, nz1, nz2, nz3, nz4, nz5]
  refine tkH (i := 4) (v := .bool true) rfl (by kernel_rfl) (fun _ _ _ h => h) (Or.inl ⟨by rfl, fun w _ => by go_simp⟩) hS ?_
  try simp only [Act.put, nz0, nz1, nz2, nz3, nz4, nz5]
  refine tkH (i := 5) (v := .bool true) rfl (by kernel_rfl) (fun _ _ _ h => h) (Or.inl ⟨by rfl, fun w _ => by go_simp⟩) hS ?_
  try simp only [Act.put, nz0, nz1, nz2, nz3, nz4, nz5]
  refine tkH (i := 6) (v := .bool true) rfl (by kernel_rfl) (fun _ _ _ h => h) (Or.inl ⟨by rfl, fun w _ => by go_simp⟩) hS ?_
  try simp only [Act.put, nz0, nz1, nz2, nz3, nz4, nz5]
  refine tkH (i := 7) (v := .int .i64 0) rfl (by kernel_rfl) (fun _ _ _ h => h) (Or.inl ⟨by rfl, fun w _ => by go_simp⟩) hS ?_
  try simp only [Act.put, nz0, nz1, nz2, nz3, nz4, nz5]
  refine tkH (i := 8) (v := .bool true) rfl (by kernel_rfl) (fun _ _ _ h => h) (Or.inl ⟨by rfl, fun w _ => by go_simp⟩) hS ?_
  try simp only [Act.put, nz0, nz1, nz2, nz3, nz4, nz5]
  refine tkH (i := 9) (v := .bool true) rfl (by kernel_rfl) (fun _ _ _ h => h) (Or.inl ⟨by rfl, fun w _ => by go_simp⟩) hS ?_
  try simp only [Act.put, nz0, nz1, nz2, nz3, nz4, nz5]
  refine tkH (i := 10) (v := .bool true) rfl (by kernel_rfl) (fun _ _ _ h => h) (Or.inl ⟨by rfl, fun w _ => by go_simp⟩) hS ?_
  try simp only [Act.put, nz0, nz1, nz2, nz3, nz4, nz5]
  refine tkH (i := 11) (v := .agg PB0) rfl (by kernel_rfl) (fun _ _ _ h => h) (yields_cells (by rfl) 34 (.tmp 5) rfl A5 rfl 34 PB0 (fun w h => h.2.1) 224 Try.underlying34 rfl size34 HP0.out) hS ?_
  try simp only [Act.put, nz0, nz1, nz2, nz3, nz4, nz5]
  refine tkH (i := 12) (v := .agg #[.bool false, .int .u16 1]) rfl (by kernel_rfl) (fun _ _ _ h => h) (yields_cells (by rfl) 31 (.tmp 4) rfl A4 rfl 31 #[.bool false, .int .u16 1] (fun w h => h.1) 2 Try.underlying31 rfl size31 rfl) hS ?_
  try simp only [Act.put, nz0, nz1, nz2, nz3, nz4, nz5]
  refine wpAnyH_ready (rs := [13]) (by kernel_rfl) (by simp) ?_
  refine AllReadyH.cons rfl (fun K hK => ?_) AllReadyH.nil
  go_simp
  go_at_call 15
  refine Calls.mono (HBL.out _) ?_
  rintro e wc ⟨rfl, hcb⟩
  refine hK.out _ _ (⟨hS.1.below hcb hS.1.lt, hS.2.1.below hcb hS.2.1.lt, hS.2.2.1.below hcb hS.2.2.1.lt, hS.2.2.2.trans (hcb.mono hS.2.2.2.size)⟩) fun hS => ?_
  try simp only [Act.put, nz0, nz1, nz2, nz3, nz4, nz5]
  clear hcb
  refine tkH (i := 14) (v := .bool true) rfl (by kernel_rfl) (fun _ _ _ h => h) (yields_eq (by rfl) 34 34 (.tmp 54) (.tmp 56) rfl PB0 PB0 rfl rfl Try.eqGuardType34 true HEQ0.out) hS ?_
  try simp only [Act.put, nz0, nz1, nz2, nz3, nz4, nz5]
  refine tkH (i := 15) (v := .bool true) rfl (by kernel_rfl) (fun _ _ _ h => h) (Or.inl ⟨by rfl, fun w _ => by go_simp⟩) hS ?_
  try simp only [Act.put, nz0, nz1, nz2, nz3, nz4, nz5]
  refine tkH (i := 16) (v := .bool true) rfl (by kernel_rfl) (fun _ _ _ h => h) (Or.inl ⟨by rfl, fun w _ => by go_simp⟩) hS ?_
  try simp only [Act.put, nz0, nz1, nz2, nz3, nz4, nz5]
  refine tkH (i := 17) (v := .agg PB1) rfl (by kernel_rfl) (fun _ _ _ h => h) (yields_cells (by rfl) 34 (.tmp 8) rfl A8 rfl 34 PB1 (fun w h => h.2.2.1) 224 Try.underlying34 rfl size34 HP1.out) hS ?_
  try simp only [Act.put, nz0, nz1, nz2, nz3, nz4, nz5]
  refine tkH (i := 18) (v := .agg #[.bool false, .int .u16 1]) rfl (by kernel_rfl) (fun _ _ _ h => h) (yields_cells (by rfl) 31 (.tmp 4) rfl A4 rfl 31 #[.bool false, .int .u16 1] (fun w h => h.1) 2 Try.underlying31 rfl size31 rfl) hS ?_
  try simp only [Act.put, nz0, nz1, nz2, nz3, nz4, nz5]
  refine wpAnyH_ready (rs := [19]) (by kernel_rfl) (by simp) ?_
  refine AllReadyH.cons rfl (fun K hK => ?_) AllReadyH.nil
  go_simp
  go_at_call 19
  refine Calls.mono (HFL.out _) ?_
  rintro e w2_19 ⟨rfl, hcb⟩
  refine hK.out _ _ (⟨hS.1.below hcb hS.1.lt, hS.2.1.below hcb hS.2.1.lt, hS.2.2.1.below hcb hS.2.2.1.lt, hS.2.2.2.trans (hcb.mono hS.2.2.2.size)⟩) fun hS => ?_
  try simp only [Act.put, nz0, nz1, nz2, nz3, nz4, nz5]
  clear hcb
  refine tkH (i := 20) (v := .bool true) rfl (by kernel_rfl) (fun _ _ _ h => h) (yields_eq (by rfl) 34 34 (.tmp 60) (.tmp 62) rfl PB1 PB1 rfl rfl Try.eqGuardType34 true HEQ1.out) hS ?_
  try simp only [Act.put, nz0, nz1, nz2, nz3, nz4, nz5]
  refine tkH (i := 21) (v := .bool true) rfl (by kernel_rfl) (fun _ _ _ h => h) (Or.inl ⟨by rfl, fun w _ => by go_simp⟩) hS ?_
  try simp only [Act.put, nz0, nz1, nz2, nz3, nz4, nz5]
  refine tkH (i := 22) (v := .bool true) rfl (by kernel_rfl) (fun _ _ _ h => h) (Or.inl ⟨by rfl, fun w _ => by go_simp⟩) hS ?_
  try simp only [Act.put, nz0, nz1, nz2, nz3, nz4, nz5]
  refine tkH (i := 23) (v := .pointer (some ⟨gc, 0, none⟩)) rfl (by kernel_rfl) (fun _ _ _ h => h) (Or.inl ⟨by rfl, fun w _ => by go_simp⟩) hS ?_
  try simp only [Act.put, nz0, nz1, nz2, nz3, nz4, nz5]
  refine tkH (i := 24) (v := .agg #[.bool false, .int .u16 1]) rfl (by kernel_rfl) (fun _ _ _ h => h) (yields_cells (by rfl) 31 (.tmp 4) rfl A4 rfl 31 #[.bool false, .int .u16 1] (fun w h => h.1) 2 Try.underlying31 rfl size31 rfl) hS ?_
  try simp only [Act.put, nz0, nz1, nz2, nz3, nz4, nz5]
  refine wpAnyH_ready (rs := [25]) (by kernel_rfl) (by simp) ?_
  refine AllReadyH.cons rfl (fun K hK => ?_) AllReadyH.nil
  go_simp
  go_at_call 22
  refine Calls.mono (HPI.out _ hS.2.2.2) ?_
  rintro e w3_25 ⟨rfl, hcb⟩
  refine hK.out _ _ (⟨hS.1.below hcb hS.1.lt, hS.2.1.below hcb hS.2.1.lt, hS.2.2.1.below hcb hS.2.2.1.lt, hS.2.2.2.trans (hcb.mono hS.2.2.2.size)⟩) fun hS => ?_
  try simp only [Act.put, nz0, nz1, nz2, nz3, nz4, nz5]
  clear hcb
  refine tkH (i := 26) (v := .bool true) rfl (by kernel_rfl) (fun _ _ _ h => h) (Or.inl ⟨by rfl, fun w _ => by go_simp⟩) hS ?_
  try simp only [Act.put, nz0, nz1, nz2, nz3, nz4, nz5]
  refine tkH (i := 27) (v := .bool true) rfl (by kernel_rfl) (fun _ _ _ h => h) (Or.inl ⟨by rfl, fun w _ => by go_simp⟩) hS ?_
  try simp only [Act.put, nz0, nz1, nz2, nz3, nz4, nz5]
  refine tkH (i := 28) (v := .bool true) rfl (by kernel_rfl) (fun _ _ _ h => h) (Or.inl ⟨by rfl, fun w _ => by go_simp⟩) hS ?_
  try simp only [Act.put, nz0, nz1, nz2, nz3, nz4, nz5]
  refine tkH (i := 29) (v := .pointer (some ⟨gc, 0, none⟩)) rfl (by kernel_rfl) (fun _ _ _ h => h) (Or.inl ⟨by rfl, fun w _ => by go_simp⟩) hS ?_
  try simp only [Act.put, nz0, nz1, nz2, nz3, nz4, nz5]
  refine tkH (i := 30) (v := .agg #[.bool false, .int .u16 1]) rfl (by kernel_rfl) (fun _ _ _ h => h) (yields_cells (by rfl) 31 (.tmp 4) rfl A4 rfl 31 #[.bool false, .int .u16 1] (fun w h => h.1) 2 Try.underlying31 rfl size31 rfl) hS ?_
  try simp only [Act.put, nz0, nz1, nz2, nz3, nz4, nz5]
  refine wpAnyH_ready (rs := [31]) (by kernel_rfl) (by simp) ?_
  refine AllReadyH.cons rfl (fun K hK => ?_) AllReadyH.nil
  go_simp
  go_at_call 26
  refine Calls.mono (HCL.out _ hS.2.2.2) ?_
  rintro e w4_31 ⟨rfl, hcb⟩
  refine hK.out _ _ (⟨hS.1.below hcb hS.1.lt, hS.2.1.below hcb hS.2.1.lt, hS.2.2.1.below hcb hS.2.2.1.lt, hS.2.2.2.trans (hcb.mono hS.2.2.2.size)⟩) fun hS => ?_
  try simp only [Act.put, nz0, nz1, nz2, nz3, nz4, nz5]
  clear hcb
  refine tkH (i := 32) (v := .bool true) rfl (by kernel_rfl) (fun _ _ _ h => h) (Or.inl ⟨by rfl, fun w _ => by go_simp⟩) hS ?_
  try simp only [Act.put, nz0, nz1, nz2, nz3, nz4, nz5]
  refine tkH (i := 33) (v := .bool true) rfl (by kernel_rfl) (fun _ _ _ h => h) (Or.inl ⟨by rfl, fun w _ => by go_simp⟩) hS ?_
  try simp only [Act.put, nz0, nz1, nz2, nz3, nz4, nz5]
  refine tkH (i := 34) (v := .bool true) rfl (by kernel_rfl) (fun _ _ _ h => h) (Or.inl ⟨by rfl, fun w _ => by go_simp⟩) hS ?_
  try simp only [Act.put, nz0, nz1, nz2, nz3, nz4, nz5]
  refine wpAnyH_done (by kernel_rfl) ?_ _
  go_wp2
  rw [HPP.out]
  exact ⟨rfl, HBW.out.trans (hS.2.2.2.mono HBW.out.size)⟩
end Go.Proofs.Ytehogiondcpbcaa
namespace Go.Proofs.Ytehogiondcpbcaa
open Go.ChangeShapes Go.WideShapes Go.ChangeAt Go.RowKit
open Go.Deep
set_option linter.unusedVariables false
set_option linter.unusedSimpArgs false
set_option maxRecDepth 20000
theorem laidOut : laidOutB Try.prog = true := by kernel_rfl
theorem list_choose {n : Nat} {p : Nat → Int → Prop} (h : ∀ i, i < n → ∃ x, p i x) : ∃ ys : List Int, ys.length = n ∧ ∀ i, i < n → p i (ys.getD i 0) := by
  induction n with
  | zero => exact ⟨[], rfl, fun i hi => by omega⟩
  | succ n ih =>
    obtain ⟨ys, hl, hy⟩ := ih (fun i hi => h i (by omega))
    obtain ⟨x, hx⟩ := h n (by omega)
    refine ⟨ys ++ [x], by simp [hl], fun i hi => ?_⟩
    by_cases e : i < n
    · have := hy i e
      simp only [List.getD] at this ⊢
      rw [List.getElem?_append_left (by omega)]; exact this
    · have e : i = n := by omega
      subst e
      simp only [List.getD]
      rw [List.getElem?_append_right (by omega), hl]; simpa using hx
section
variable {H : Type} {enc : TypeId × Value → H}
theorem open_list {P : Program} {w : World} {base : Nat} {spare : Nat → Bool} {held : Bool} {fuel n : Nat} {t e : TypeId} {cs : List Value} {x : DataW H × List MemPlace} (ht : P.underlying t = some (.array n e)) (he : P.underlying e = some (.int .u8)) (hc : P.cellsOf e = 1) (hl : cs.length = n)
    (hf : DataW.trod enc P w base spare held fuel t cs = some x) : ∃ ys : List Int, cs = ys.map (Value.int .u8) ∧ ys.length = n ∧ Bytes ys := by
  obtain ⟨xs, m, hfu, hx, hlx, hn, hall⟩ := DataW.trod_array ht hf
  have hstep : ∀ i, i < n → ∃ z, cs[i]? = some (.int .u8 z) ∧ (Lit.int .u8 z).wf = true := by
    intro i hi
    have h1 := hall i hi
    obtain ⟨b, hb⟩ : ∃ b, xs[i]? = some b := ⟨xs[i]'(by omega), List.getElem?_eq_getElem (by omega)⟩
    rw [hb, hc] at h1
    obtain ⟨z, hcz, rfl, hw⟩ := DataW.trod_int he h1
    refine ⟨z, ?_, hw⟩
    have := congrArg (·[0]?) hcz
    simpa [List.getElem?_take, List.getElem?_drop, Value.cells] using this
  obtain ⟨ys, hyl, hy⟩ := list_choose hstep
  refine ⟨ys, ?_, hyl, ?_⟩
  · apply List.ext_getElem?
    intro i
    by_cases hi : i < n
    · rw [(hy i hi).1, List.getElem?_map, List.getElem?_eq_getElem (by omega)]
      simp [List.getD, show i < ys.length by omega]
    · rw [List.getElem?_eq_none (by omega), List.getElem?_eq_none (by simp; omega)]
  · intro y hy'
    obtain ⟨i, hi, rfl⟩ := List.getElem_of_mem hy'
    have := bounds_u8 (hy i (by omega)).2
    simpa [List.getD, hi] using this
end
theorem cells41 : Try.prog.cellsOf 41 = 256 := by kernel_rfl
theorem cells4b : Try.prog.cellsOf 4 = 1 := by kernel_rfl
theorem wfu_mk {k : Int} (h : 0 ≤ k ∧ k ≤ 65535) : WfU k := by
  unfold WfU
  have e : (Lit.int .u16 k).wf = (decide ((0 : Int) ≤ k) && decide (k ≤ 65535)) := rfl
  rw [e]; simpa using h
structure XO where
  kd : Int
  u : Bool
  k : Int
  b : Int
  fs : Value
  zl : List Int
  p : List Int
def XO.cells (o : XO) : List Value := .int .i64 o.kd :: .bool o.u :: .int .u16 o.k :: .int .u8 o.b :: o.fs :: o.p.map (Value.int .u8)
structure XO.Ok (w : World) (o : XO) : Prop where
  kd : Wf o.kd
  k : 0 ≤ o.k ∧ o.k ≤ 65535
  b : 0 ≤ o.b ∧ o.b ≤ 255
  fs : Cel w o.fs (o.zl.map (.int .i64))
  zw : ∀ z ∈ o.zl, Wf z
  zl : o.zl.length * 8 ≤ 140737488355328
  p : o.p.length = 224
  pb : Bytes o.p
theorem XO.Ok.keep {w w' : World} {o : XO} (h : o.Ok w) (hb : Below w.heap.size w w') : o.Ok w' := { h with fs := h.fs.keep hb }
def XOs (w : World) (v : Value) (cs : List XO) : Prop := ∃ (oa : Option Addr) (cap : Nat), v = .slice oa cs.length cap ∧ cs.length ≤ 140737488355328 ∧ ∀ i, i < cs.length → ∃ (a : Addr) (c : XO), oa = some a ∧ cs[i]? = some c ∧ c.Ok w ∧ ∀ j u, c.cells[j]? = some u → w.cell? ((a.add (i * 229)).add j) = some u
theorem XOs.below {w w' : World} {v : Value} {cs : List XO} (h : XOs w v cs) (hb : Below w.heap.size w w') : XOs w' v cs := by
  obtain ⟨oa, cap, h1, h2, h3⟩ := h
  refine ⟨oa, cap, h1, h2, fun i hi => ?_⟩
  obtain ⟨a, c, e1, e2, ok, hc⟩ := h3 i hi
  exact ⟨a, c, e1, e2, ok.keep hb, fun j u hj => cell_keep (hc j u hj) hb⟩
section
variable {H : Type} {enc : TypeId × Value → H}
theorem open_blockv {w : World} {base : Nat} {v : Value} {d : DataW H} {p : List MemPlace} (hv : Value.okWide Try.prog w .any base 41 v) (h : DataW.Trod enc Try.prog w 0 (fun _ => true) true 41 v d p) :
    ∃ ys : List Int, v = .agg (bs ys) ∧ ys.length = 256 ∧ Bytes ys := by
  simp only [Value.okWide, Try.underlying41] at hv
  obtain ⟨cs, rfl, hcs, _⟩ := hv
  obtain ⟨fuel, hf⟩ := h
  rw [cells41] at hcs
  obtain ⟨ys, he, hl, hb⟩ := open_list Try.underlying41 Try.underlying5 cells5 (by simpa [Value.cells] using hcs) hf
  refine ⟨ys, ?_, hl, hb⟩
  have he' : cs.toList = ys.map (Value.int .u8) := he
  rw [← Array.toArray_toList (xs := cs), he']; rfl
theorem open_pidl {w : World} {fuel : Nat} {l : List Value} {x : DataW H × List MemPlace} (hf' : DataW.trod enc Try.prog w 0 (fun _ => true) true fuel 31 l = some x) : ∃ (u : Bool) (no : Int), l = [.bool u, .int .u16 no] ∧ 0 ≤ no ∧ no ≤ 65535 := by
  cases fuel with
  | zero => simp [DataW.trod] at hf'
  | succ n =>
    unfold DataW.trod at hf'
    rw [Try.underlying31] at hf'
    simp only [cells31] at hf'
    by_cases hl : l.length = 2
    · match l, hl with
      | [c0, c1], _ =>
        simp [List.mapM_cons, cells4b, cells29] at hf'
        cases t0 : DataW.trod enc Try.prog w 0 (fun _ => true) true n 4 [c0] with
        | none => simp [t0] at hf'
        | some x0 =>
        cases t1 : DataW.trod enc Try.prog w 0 (fun _ => true) true n 29 [c1] with
        | none => simp [t0, t1] at hf'
        | some x1 =>
        obtain ⟨k0, e0, _⟩ := DataW.trod_bool Try.underlying4 t0
        obtain ⟨k1, e1, _, u1⟩ := DataW.trod_int Try.underlying29 t1
        simp at e0 e1
        exact ⟨k0, k1, by rw [e0, e1], bounds_u16 u1⟩
    · simp [hl] at hf'
theorem open_pidv {w : World} {base : Nat} {v : Value} {d : DataW H} {p : List MemPlace} (hv : Value.okWide Try.prog w .any base 31 v) (h : DataW.Trod enc Try.prog w 0 (fun _ => true) true 31 v d p) :
    ∃ (u : Bool) (no : Int), v = .agg #[.bool u, .int .u16 no] ∧ 0 ≤ no ∧ no ≤ 65535 := by
  obtain ⟨cs, rfl, hsz⟩ := okWide_struct Try.underlying31 hv
  obtain ⟨fuel, hf⟩ := h
  obtain ⟨u, no, h1, h2⟩ := open_pidl (l := cs.toList) hf
  refine ⟨u, no, ?_, h2⟩
  rw [← Array.toArray_toList (xs := cs), h1]
end
end Go.Proofs.Ytehogiondcpbcaa
namespace Go.Proofs.Ytehogiondcpbcaa
open Go.ChangeShapes Go.WideShapes Go.ChangeAt Go.RowKit
set_option linter.unusedVariables false
set_option linter.unusedSimpArgs false
set_option maxRecDepth 20000
theorem fill_is (u : Bool) (k b lsn : Int) (hk : 0 ≤ k ∧ k ≤ 65535) (hb : 0 ≤ b ∧ b ≤ 255) (hl : 0 ≤ lsn ∧ lsn ≤ 18446744073709551615) : isP u k (fillP u k b lsn) = true := by
  cases u with
  | false => exact isD_putD k ⟨lsn, b, 0, 0, zs 64⟩ ⟨hl, (by show 0 ≤ b ∧ b ≤ 4294967295; omega), (by show (0 : Int) ≤ 0 ∧ (0 : Int) ≤ 65535; omega), (by show (0 : Int) ≤ 0 ∧ (0 : Int) ≤ 255; omega), zs_length _, zs_bytes _⟩
  | true =>
    have hm : may [fO b] = true := rfl
    show isU k (putU k lsn [fO b]) = true
    rw [putU_may k lsn _ hm, isU_put k k lsn [fO b] hm (fun o ho => by rw [List.mem_singleton.1 ho]; exact fO_fits hb) hl hk hk]
    exact decide_eq_true rfl
theorem CL.write {w : World} {F : Nat → Prop} {gc gd gl gk ak : Nat} {s : Cs} {l : Lg} {d : Dsk} {M : Int} {N : Nat} (c : CL w F gc gd gl gk ak s l d M N) (ho : d.ops < 9223372036854775806) (b : Int) (x : List Int) (hx : x.length = 256) (xb : Bytes x) (hN : N + 4 < 1000000000000) : Calls Try.prog 30 #[.pointer (some ⟨gd, 0, none⟩), .int .i64 b, .agg (bs x)] w fun e w' => e = .returned (.int .i64 (writ d b x).1) ∧ CStep w F gc gd gl gk ak s l (writ d b x).2 M (N + 4) w' := by
  obtain ⟨fv, m, n, vl, vs, L, cA, hst, lD, hdis, hF⟩ := c.self
  refine (hst.write ho b x hx xb hN).mono ?_
  rintro e w' ⟨q1, q2⟩
  refine ⟨q1, CStep.logd hdis hF (fun j q => cA.lt q) (q2.off.mono fun j q => Or.inl (hF j (Or.inl q))) q2 (cA.off q2.off fun k q q2 => hdis k q2 q) c.ok⟩
theorem first_fetch {fr : Nat} (hfr : 4 ≤ fr) {u : Bool} {k : Int} {d : Dsk} {kk : Int} (hw : Well d 60 kk) {b : List Int} (hpl : 0 ≤ placeC 4 u k ∧ placeC 4 u k < 60) (hs : d.seen (placeC 4 u k) = b) (hc : isC (newC 4 5 fr) u k = true) {p : List Int} {E : Int} {s1 : Cs} {l1 : Lg} {d1 : Dsk} (h : Fetches (newC 4 5 fr) log0 d u k p E s1 l1 d1) :
    p = (openF u k b).p ∧ E = 0 ∧ l1 = log0 ∧ s1.fs = [openF u k b] ∧ (s1.ck[0]?).map Cl.Fr.pins = some 1 := by
  have hp : posF (newC 4 5 fr).fs u k = none := rfl
  rcases h with ⟨h1, _⟩ | ⟨_, i, f, h1, _⟩ | ⟨_, _, i1, E1, s2, hl, hr⟩
  · rw [hc] at h1; cases h1
  · rw [hp] at h1; cases h1
  · obtain ⟨i, E0, s0, d0, hv, hl⟩ := hl
    have hv2 : i = 0 ∧ E0 = 0 ∧ s0 = newC 4 5 fr ∧ l1 = log0 ∧ d0 = d := by
      rcases hv with ⟨_, h1, h2, h3, h4, h5⟩ | ⟨h1, _⟩
      · exact ⟨h1, h2, h3, h4, h5⟩
      · exact absurd (show (0 : Nat) = fr from h1) (by omega)
    obtain ⟨rfl, rfl, rfl, rfl, rfl⟩ := hv2
    have hrd : read d0 (placeC (newC 4 5 fr).pages u k) = (b, 0, d0.tick (d0.ops + 1)) := by
      rw [show placeC (newC 4 5 fr).pages u k = placeC 4 u k from rfl, read_well hw _ hpl, hs]
    rw [hrd] at hl
    have hck : ∃ r, Cl.newF fr = ⟨0, false, false, 0⟩ :: r := by
      obtain ⟨m, rfl⟩ : ∃ m, fr = m + 1 := ⟨fr - 1, by omega⟩
      refine ⟨(List.range m).map (fun j => ⟨j + 1, false, false, 0⟩), ?_⟩
      unfold Cl.newF
      rw [List.range_succ_eq_map, List.map_cons, List.map_map]
      rfl
    obtain ⟨r, hck⟩ := hck
    rcases hl with ⟨h1, _⟩ | ⟨_, h1, _⟩ | ⟨_, _, rfl, rfl, rfl, rfl⟩
    · exact absurd rfl h1
    · exact absurd rfl h1
    · rcases hr with ⟨h1, _⟩ | ⟨_, rfl, rfl, f, hf, rfl⟩
      · exact absurd rfl h1
      · have hf2 : f = openF u k b := by
          have : ([openF u k b] : List Fm)[0]? = some f := hf
          simpa using this.symm
        subst hf2
        have hls : (loadS (newC 4 5 fr) 0 (openF u k b)).ck = ⟨0, false, false, 0⟩ :: r := by
          unfold loadS
          show (match (Cl.newF fr)[0]? with | some x => (Cl.newF fr).set 0 { x with seen := false, cold := false } | none => Cl.newF fr) = _
          rw [hck]; rfl
        refine ⟨rfl, rfl, rfl, rfl, ?_⟩
        unfold fetchP
        show ((match (loadS (newC 4 5 fr) 0 (openF u k b)).ck[0]? with | some x => (loadS (newC 4 5 fr) 0 (openF u k b)).ck.set 0 { x with seen := true, pins := x.pins + 1 } | none => (loadS (newC 4 5 fr) 0 (openF u k b)).ck)[0]?).map Cl.Fr.pins = some 1
        rw [hls]; rfl
theorem none_fetch {s : Cs} {u : Bool} {k : Int} {l : Lg} {d : Dsk} (hc : isC s u k = false) {p : List Int} {E : Int} {s1 : Cs} {l1 : Lg} {d1 : Dsk} (h : Fetches s l d u k p E s1 l1 d1) : p = zs 224 ∧ E = 1 ∧ s1 = s ∧ l1 = l ∧ d1 = d := by
  rcases h with ⟨_, h2⟩ | ⟨h1, _⟩ | ⟨h1, _⟩
  · exact h2
  · rw [hc] at h1; cases h1
  · rw [hc] at h1; cases h1
theorem one_pos {s1 : Cs} {f : Fm} (hfs : s1.fs = [f]) : posF s1.fs f.un f.no = some 0 := by
  rw [hfs]
  unfold posF
  simp
theorem one_put {s1 : Cs} {f : Fm} (hfs : s1.fs = [f]) (hp : (s1.ck[0]?).map Cl.Fr.pins = some 1) {p : List Int} (hip : isP f.un f.no p = true) : putE s1 f.un f.no p = 0 ∧ putS s1 f.un f.no p = { s1 with fs := [putF f p] } ∧ tornC (putS s1 f.un f.no p) f.un f.no = false ∧ tornC s1 f.un f.no = f.torn := by
  have hpos := one_pos hfs
  have hpc : pinsC s1 f.un f.no = 1 := by unfold pinsC; rw [hpos]; show ((s1.ck[0]?).map Cl.Fr.pins).getD 0 = 1; rw [hp]; rfl
  have he : putE s1 f.un f.no p = 0 := by unfold putE; rw [hpc, if_neg (by decide), hip, if_pos rfl]
  have hf0 : s1.fs[0]? = some f := by rw [hfs]; rfl
  have hs2 : putS s1 f.un f.no p = { s1 with fs := [putF f p] } := by
    unfold putS
    rw [if_pos he, hpos]
    simp only [hf0]
    rw [hfs]; rfl
  refine ⟨he, hs2, ?_, ?_⟩
  · rw [hs2]
    unfold tornC
    have : posF [putF f p] f.un f.no = some 0 := one_pos (s1 := { s1 with fs := [putF f p] }) (f := putF f p) rfl
    show (match posF [putF f p] f.un f.no with | some i => ((([putF f p] : List Fm)[i]?).map Fm.torn).getD false | none => false) = false
    rw [this]; rfl
  · unfold tornC
    rw [hpos]
    show ((s1.fs[0]?).map Fm.torn).getD false = f.torn
    rw [hf0]; rfl
def Tf1 (W0 : World) (F1 : Nat → Prop) (W1 : World) (gc gd gl gk ak : Nat) (ZP : Array Value) (e : Ending) (w' : World) : Prop := ∃ F', e = .returned (.tuple #[.agg ZP, .int .i64 1]) ∧ CS W0 F' gc gd gl gk ak (newC 4 5 4) log0 (Dsk.new 60) 1 4004 w' ∧ Tr F1 W1 F' w'
def Tf2 (W0 : World) (F1 : Nat → Prop) (W1 : World) (gc gd gl gk ak : Nat) (u : Bool) (k : Int) (b : List Int) (e : Ending) (w' : World) : Prop := ∃ (F' : Nat → Prop) (s1 : Cs) (d1 : Dsk), e = .returned (.tuple #[.agg (bs (openF u k b).p), .int .i64 0]) ∧ CS W0 F' gc gd gl gk ak s1 log0 d1 1 4008 w' ∧ Tr F1 W1 F' w' ∧ s1.fs = [openF u k b] ∧ (s1.ck[0]?).map Cl.Fr.pins = some 1
end Go.Proofs.Ytehogiondcpbcaa
