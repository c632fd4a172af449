/-
  Proved here: cache.Put, cache.Write. Proved here: cache.New; a disk, a log and a cache made.
-/
import Derived.Test.YtehogiondcpbcaaJq29
import Derived.Test.YtehogiondcpbcaaJq10
import Derived.Test.YtehogiondcpbcaaJq03
namespace Go.Proofs.Ytehogiondcpbcaa
open Go.ChangeShapes Go.WideShapes Go.ChangeAt Go.RowKit
set_option linter.unusedVariables false
set_option linter.unusedSimpArgs false
set_option maxRecDepth 20000
theorem CB.splice {w : World} {gc gd gl gk ak : Nat} {a cap : Nat} {m n : Nat} {s : Cs} {gs : List Fm} {I : Ids} {M : Int} (c : CB w gc gd gl gk ak (.slice (some ⟨a, 0, none⟩) gs.length cap) m n s gs I M) (ok : ∀ f ∈ gs, f.Ok) {i : Nat} {f : Fm} (hf : gs[i]? = some f) (f' : Fm) (o : Nat) (vs : List Value) (ho : o + vs.length ≤ 229) (hs : splice f.cells o vs = f'.cells) :
    CB (w.setCells a (i * 229 + o) vs) gc gd gl gk ak (.slice (some ⟨a, 0, none⟩) (gs.set i f').length cap) m n s (gs.set i f') I M ∧ Off (· = a) w (w.setCells a (i * 229 + o) vs) := by
  have h2 : Off (· = a) w (w.setCells a (i * 229 + o) vs) := Off.of_setCells _ _ _ _
  have hil := (List.getElem?_eq_some_iff.1 hf).1
  have hfl := flatF_length ok
  have h1 := ownsRow_cells vs (i * 229 + o) w (flatF gs) c.own (by rw [hfl]; omega)
  rw [flatF_splice ok i o f f' vs hf ho hs] at h1
  have e : (gs.set i f').length = gs.length := List.length_set ..
  have hne := c.ne
  rw [e]
  refine ⟨⟨c.row.off h2 (fun q => hne.a_gc a rfl q.symm), by rw [e]; exact h1, c.map.off h2 (fun q => hne.a_m a rfl q.symm), c.clk.off h2 (fun k q q2 => hne.a_k a rfl (by rw [← q2]; exact q))⟩, h2⟩
theorem HStep.splice {w : World} {F : Nat → Prop} {gc gd gl gk ak : Nat} {a cap : Nat} {m n : Nat} {s : Cs} {gs : List Fm} {I : Ids} {l : Lg} {d : Dsk} {M : Int} {N : Nat} {W : World} (h : HStep w F gc gd gl gk ak (.slice (some ⟨a, 0, none⟩) gs.length cap) m n s gs I l d M N W) (ok : ∀ f ∈ gs, f.Ok) {i : Nat} {f : Fm} (hf : gs[i]? = some f) (f' : Fm) (o : Nat) (vs : List Value) (ho : o + vs.length ≤ 229) (hs : splice f.cells o vs = f'.cells) :
    HStep w F gc gd gl gk ak (.slice (some ⟨a, 0, none⟩) (gs.set i f').length cap) m n s (gs.set i f') I l d M N (W.setCells a (i * 229 + o) vs) := by
  obtain ⟨h1, h2⟩ := h.cb.splice ok hf f' o vs ho hs
  exact h.turn (G := (· = a)) (fun j q => Or.inr (Or.inl (by rw [q]; rfl))) h2 h1 (fun j q => Or.inl q)
def putF (f : Fm) (p : List Int) : Fm := { f with p := p, torn := false, dirty := true, first := if f.dirty = true then f.first else lsnP p }
def putE (s : Cs) (u : Bool) (k : Int) (p : List Int) : Int := if pinsC s u k = 0 then 1 else if isP u k p = true then 0 else 1
def putS (s : Cs) (u : Bool) (k : Int) (p : List Int) : Cs := if putE s u k p = 0 then (match posF s.fs u k with | some i => (match s.fs[i]? with | some f => { s with fs := s.fs.set i (putF f p) } | none => s) | none => s) else s
def writeR (s : Cs) (l : Lg) (d : Dsk) (u : Bool) (k : Int) : Int × Cs × Lg × Dsk :=
  match posF s.fs u k with
  | none => (1, s, l, d)
  | some i => match s.fs[i]? with
    | none => (1, s, l, d)
    | some f => if f.dirty = true then ((wbR s l d f).1, (if (wbR s l d f).1 = 0 then cleanF s i f else s), (wbR s l d f).2.1, (wbR s l d f).2.2) else (0, s, l, d)
theorem lsnP_in (p : List Int) : 0 ≤ lsnP p ∧ lsnP p ≤ 18446744073709551615 := by have := getN_fits (strOfNums p) 7 8; unfold lsnP; omega
set_option maxHeartbeats 2000000 in
theorem cwrite_any {w : World} {F : Nat → Prop} {gc gd gl gk ak : Nat} {s : Cs} {l : Lg} {d : Dsk} {M : Int} {N : Nat} (c : CL w F gc gd gl gk ak s l d M N) (u : Bool) (k : Int) (hk : WfU k) (hi : l.Inv) (hfi : l.fin ≤ 18446744073709551615) (hop : d.ops + 2000 < 9223372036854775806) (hopF : (flushR l d).2.2.ops ≤ d.ops + 1000) (hN : N + 20000 < 1000000000000) : Calls Try.prog 25 #[.pointer (some ⟨gc, 0, none⟩), idv u k] w fun e w' => e = .returned (.int .i64 (writeR s l d u k).1) ∧ CStep w F gc gd gl gk ak (writeR s l d u k).2.1 (writeR s l d u k).2.2.1 (writeR s l d u k).2.2.2 M (N + 4004) w' := by
  obtain ⟨PP, HPP⟩ : ∃ PP : Ending → World → Prop, Hid (PP = fun e w' => e = .returned (.int .i64 (writeR s l d u k).1) ∧ CStep w F gc gd gl gk ak (writeR s l d u k).2.1 (writeR s l d u k).2.2.1 (writeR s l d u k).2.2.2 M (N + 4004) w') := ⟨_, rfl⟩
  rw [← HPP.out]
  have r0 : Row (w.alloc (.cells #[.bool u, .int .u16 k] 31)) w.heap.size #[.bool u, .int .u16 k] 31 := Row.new _ _ _
  have ab : Below w.heap.size w (w.alloc (.cells #[.bool u, .int .u16 k] 31)) := (Below.refl _ _).alloc (Nat.le_refl _) _
  have hfd : Calls Try.prog 56 #[.pointer (some ⟨gc, 0, none⟩), .agg #[.bool u, .int .u16 k]] (w.alloc (.cells #[.bool u, .int .u16 k] 31)) fun e w' => e = .returned (.tuple #[.int .i64 ((whereF s.fs u k).getD 0), .bool (whereF s.fs u k).isSome]) ∧ Below (w.alloc (.cells #[.bool u, .int .u16 k] 31)).heap.size (w.alloc (.cells #[.bool u, .int .u16 k] 31)) w' := by
    obtain ⟨fv, m, n, vl, vs, L, cA, _⟩ := c.ex
    exact find_any (cA.below ab) u k hk
  have HC : Hid (CL w F gc gd gl gk ak s l d M N) := c
  have HN : Hid (N + 20000 < 1000000000000) := hN
  unfold idv
  cases hp : posF s.fs u k with
  | none =>
    rw [where_none hp] at hfd
    simp only [Option.getD_none, Option.isSome_none] at hfd
    have HE : Hid (writeR s l d u k = (1, s, l, d)) := by show writeR s l d u k = _; unfold writeR; rw [hp]
    clear hp c hi hfi hop hopF hN
    go_enter Try.func25, Try.ntmps25
    go_upto_region 1 with fail
    generalize w.alloc (.cells #[.bool u, .int .u16 k] 31) = W at r0 ab hfd ⊢
    obtain ⟨A0, HA0⟩ : ∃ A0, Hid (w.heap.size = A0) := ⟨_, rfl⟩
    rw [HA0.out] at r0 ⊢
    have tl : Hid (1 = 1) := rfl
    go_wp2_with (first
      | (have hh := tl; clear hh tl; refine load_cells rfl 31 (.tmp 3) rfl A0 rfl 31 #[.bool u, .int .u16 k] r0 2 Try.underlying31 rfl size31 rfl ?_)
      | (have hh := hfd; clear hh; go_at_call 56; refine Calls.mono hfd ?_; clear hfd; rintro e W1 ⟨he, hb⟩; obtain rfl := he; have ab := ab.trans (hb.mono ab.size); clear hb; skip))
    rw [HPP.out, HE.out]
    exact ⟨rfl, (CStep.same HC.out ab).grow (by omega) (by have := HN.out; omega)⟩
  | some i =>
    rw [where_some hp] at hfd
    simp only [Option.getD_some, Option.isSome_some] at hfd
    obtain ⟨f, hf, _, _⟩ := posF_some hp
    by_cases hd : f.dirty = true
    · have HE : Hid (writeR s l d u k = ((wbR s l d f).1, (if (wbR s l d f).1 = 0 then cleanF s i f else s), (wbR s l d f).2.1, (wbR s l d f).2.2)) := by show writeR s l d u k = _; unfold writeR; rw [hp]; simp only [hf]; rw [if_pos hd]
      have HWB : Hid (∀ W, CL W F gc gd gl gk ak s l d M N → Calls Try.prog 59 #[.pointer (some ⟨gc, 0, none⟩), .int .i64 i] W fun e w' => e = .returned (.int .i64 (wbR s l d f).1) ∧ CStep W F gc gd gl gk ak (if (wbR s l d f).1 = 0 then cleanF s i f else s) (wbR s l d f).2.1 (wbR s l d f).2.2 M (N + 4004) w') := fun W h => wb_any h i f hf hd hi hfi hop hopF hN
      clear hp c hi hfi hop hopF hN hf hd
      go_enter Try.func25, Try.ntmps25
      go_upto_region 1 with fail
      generalize w.alloc (.cells #[.bool u, .int .u16 k] 31) = W at r0 ab hfd ⊢
      obtain ⟨A0, HA0⟩ : ∃ A0, Hid (w.heap.size = A0) := ⟨_, rfl⟩
      rw [HA0.out] at r0 ⊢
      have tl : Hid (1 = 1) := rfl
      go_wp2_with (first
        | (have hh := tl; clear hh tl; refine load_cells rfl 31 (.tmp 3) rfl A0 rfl 31 #[.bool u, .int .u16 k] r0 2 Try.underlying31 rfl size31 rfl ?_)
        | (have hh := hfd; clear hh; go_at_call 56; refine Calls.mono hfd ?_; clear hfd; rintro e W1 ⟨he, hb⟩; obtain rfl := he; have ab := ab.trans (hb.mono ab.size); clear hb; have hwb := HWB.out W1 (HC.out.below ab))
        | (have hh := hwb; clear hh; go_at_call 59; refine Calls.mono hwb ?_; clear hwb; rintro e W2 ⟨he, hst⟩; obtain rfl := he))
      rw [HPP.out, HE.out]
      exact ⟨rfl, CStep.ahead ab hst⟩
    · have HE : Hid (writeR s l d u k = (0, s, l, d)) := by show writeR s l d u k = _; unfold writeR; rw [hp]; simp only [hf]; rw [if_neg hd]
      have HWB : Hid (∀ W, CL W F gc gd gl gk ak s l d M N → Calls Try.prog 59 #[.pointer (some ⟨gc, 0, none⟩), .int .i64 i] W fun e w' => e = .returned (.int .i64 0) ∧ w' = W) := fun W h => wb_clean h i f hf (by simpa using hd)
      clear hp c hi hfi hop hopF hN hf hd
      go_enter Try.func25, Try.ntmps25
      go_upto_region 1 with fail
      generalize w.alloc (.cells #[.bool u, .int .u16 k] 31) = W at r0 ab hfd ⊢
      obtain ⟨A0, HA0⟩ : ∃ A0, Hid (w.heap.size = A0) := ⟨_, rfl⟩
      rw [HA0.out] at r0 ⊢
      have tl : Hid (1 = 1) := rfl
      go_wp2_with (first
        | (have hh := tl; clear hh tl; refine load_cells rfl 31 (.tmp 3) rfl A0 rfl 31 #[.bool u, .int .u16 k] r0 2 Try.underlying31 rfl size31 rfl ?_)
        | (have hh := hfd; clear hh; go_at_call 56; refine Calls.mono hfd ?_; clear hfd; rintro e W1 ⟨he, hb⟩; obtain rfl := he; have ab := ab.trans (hb.mono ab.size); clear hb; have hwb := HWB.out W1 (HC.out.below ab))
        | (have hh := hwb; clear hh; go_at_call 59; refine Calls.mono hwb ?_; clear hwb; rintro e W2 ⟨he, hww⟩; rw [hww]; clear hww W2; obtain rfl := he))
      rw [HPP.out, HE.out]
      exact ⟨rfl, (CStep.same HC.out ab).grow (by omega) (by have := HN.out; omega)⟩
theorem own_at {w : World} {base : Nat} {e : TypeId} {size : Nat} {a n0 cap n : Nat} {xs : List Value} (h : w.ownsRow base e size (.slice (some ⟨a, 0, none⟩) n0 cap) n xs) : ∃ cur, w.heap[a]? = some (.cells cur e (0, 0)) := by
  rcases h.2 with ⟨e, _⟩ | ⟨g', cap', cur, e, _, hcc, _⟩
  · cases e
  · cases e; exact ⟨cur, hcc⟩
set_option maxHeartbeats 4000000 in
theorem cput_any {w : World} {F : Nat → Prop} {gc gd gl gk ak : Nat} {s : Cs} {l : Lg} {d : Dsk} {M : Int} {N : Nat} (c : CL w F gc gd gl gk ak s l d M N) (u : Bool) (k : Int) (hk : WfU k) (p : List Int) (hpn : p.length = 224) (hpb : Bytes p) : Calls Try.prog 18 #[.pointer (some ⟨gc, 0, none⟩), idv u k, .agg (bs p)] w fun e w' => e = .returned (.int .i64 (putE s u k p)) ∧ CStep w F gc gd gl gk ak (putS s u k p) l d M N w' := by
  obtain ⟨PP, HPP⟩ : ∃ PP : Ending → World → Prop, Hid (PP = fun e w' => e = .returned (.int .i64 (putE s u k p)) ∧ CStep w F gc gd gl gk ak (putS s u k p) l d M N w') := ⟨_, rfl⟩
  rw [← HPP.out]
  obtain ⟨PB, HPBD⟩ : ∃ PB, Hid (bs p = PB) := ⟨_, rfl⟩
  have HPN : Hid (p.length = 224) := hpn
  have HPY : Hid (Bytes p) := hpb
  have HPS : Hid (PB.size = 224) := by rw [← HPBD.out, bs_size]; exact hpn
  have hpo : PB.all (·.oneCell') = true := by rw [← HPBD.out]; exact bs_one _
  rw [HPBD.out]
  have e1 : (w.alloc (.cells #[.bool u, .int .u16 k] 31)).heap.size = w.heap.size + 1 := Array.size_push ..
  have ab0 : Below w.heap.size w (w.alloc (.cells #[.bool u, .int .u16 k] 31)) := (Below.refl _ _).alloc (Nat.le_refl _) _
  have ab : Below w.heap.size w ((w.alloc (.cells #[.bool u, .int .u16 k] 31)).alloc (.cells PB 34)) := ab0.alloc ab0.size _
  have r0 : Row ((w.alloc (.cells #[.bool u, .int .u16 k] 31)).alloc (.cells PB 34)) w.heap.size #[.bool u, .int .u16 k] 31 := (Row.new _ _ _).alloc _
  have r1 : Row ((w.alloc (.cells #[.bool u, .int .u16 k] 31)).alloc (.cells PB 34)) (w.heap.size + 1) PB 34 := by have := Row.new (w.alloc (.cells #[.bool u, .int .u16 k] 31)) PB 34; rw [e1] at this; exact this
  have HF0 : Hid (∀ j, F j → j < w.heap.size) := c.lt
  have HK : Hid (WfU k) := hk
  have HOK : Hid s.Ok := c.ok
  have hc0 := c.below ab
  have HCW : Hid (CL ((w.alloc (.cells #[.bool u, .int .u16 k] 31)).alloc (.cells PB 34)) F gc gd gl gk ak s l d M N) := hc0
  have hpi : Calls Try.prog 22 #[.pointer (some ⟨gc, 0, none⟩), .agg #[.bool u, .int .u16 k]] ((w.alloc (.cells #[.bool u, .int .u16 k] 31)).alloc (.cells PB 34)) fun e w' => e = .returned (.int .i64 (pinsC s u k)) ∧ Below (World.heap ((w.alloc (.cells #[.bool u, .int .u16 k] 31)).alloc (.cells PB 34))).size ((w.alloc (.cells #[.bool u, .int .u16 k] 31)).alloc (.cells PB 34)) w' := by
    obtain ⟨fv, m, n, vl, vs, L, cA, _⟩ := hc0.ex
    exact cpins_any cA c.ok u k hk
  have HRI : Hid (∀ W, Calls Try.prog 53 #[.agg #[.bool u, .int .u16 k], .agg PB] W fun e w' => e = .returned (.bool (isP u k p)) ∧ Below W.heap.size W w') := fun W => by rw [← HPBD.out]; exact right_anyP u k p W (wfu HK.out) HPN.out HPY.out
  unfold idv
  clear hk e1 ab0 c hc0 hpn hpb
  go_enter Try.func18, Try.ntmps18
  go_upto_region 1 with fail
  generalize ((w.alloc (.cells #[.bool u, .int .u16 k] 31)).alloc (.cells PB 34)) = W0 at r0 r1 ab hpi HCW ⊢
  obtain ⟨A0, HA0⟩ : ∃ A0, Hid (w.heap.size = A0) := ⟨_, rfl⟩
  obtain ⟨A1, HA1D⟩ : ∃ A1, Hid (w.heap.size + 1 = A1) := ⟨_, rfl⟩
  have e2 : (w.alloc (.cells #[.bool u, .int .u16 k] 31)).heap.size = w.heap.size + 1 := Array.size_push ..
  rw [HA1D.out] at r1
  try rw [e2]
  try rw [HA1D.out]
  rw [HA0.out] at r0 ⊢
  clear e2
  have HAB : Hid (Below w.heap.size w W0) := ab
  have HFW : Hid (∀ j, F j → j < W0.heap.size) := fun j q => Nat.lt_of_lt_of_le (HF0.out j q) HAB.out.size
  have tl : Hid (1 = 1) := rfl
  have tm : Hid (1 = 1) := rfl
  have tn : Hid (1 = 1) := rfl
  obtain ⟨pc, HPC⟩ : ∃ pc, Hid (pinsC s u k = pc) := ⟨_, rfl⟩
  rw [HPC.out] at hpi
  by_cases hp0 : pc = 0
  · subst hp0
    have HE : Hid (putE s u k p = 1 ∧ putS s u k p = s) := by
      have h1 : putE s u k p = 1 := by unfold putE; rw [if_pos HPC.out]
      exact ⟨h1, by unfold putS; rw [h1]; rfl⟩
    clear HRI
    go_wp2_with (first
      | (have hh := tl; clear hh tl; refine load_cells rfl 31 (.tmp 4) rfl A0 rfl 31 #[.bool u, .int .u16 k] r0 2 Try.underlying31 rfl size31 rfl ?_)
      | (have hh := hpi; clear hh; go_at_call 22; refine Calls.mono hpi ?_; clear hpi; rintro e W1 ⟨he, hb1⟩; obtain rfl := he))
    rw [HPP.out, HE.out.1, HE.out.2]
    exact ⟨rfl, CStep.ahead HAB.out (CStep.same HCW.out hb1)⟩
  · have k7 : (pc == 0) = false := by simpa using hp0
    have HP0 : Hid (¬ pinsC s u k = 0) := by show ¬ _; rw [HPC.out]; exact hp0
    clear hp0
    obtain ⟨br, HBR⟩ : ∃ br, Hid (isP u k p = br) := ⟨_, rfl⟩
    rw [HBR.out] at HRI
    cases br with
    | false =>
      have HE : Hid (putE s u k p = 1 ∧ putS s u k p = s) := by
        have h1 : putE s u k p = 1 := by unfold putE; rw [if_neg HP0.out, HBR.out]; rfl
        exact ⟨h1, by unfold putS; rw [h1]; rfl⟩
      go_wp2_with (first
        | (have hh := tl; clear hh tl; refine load_cells rfl 31 (.tmp 4) rfl A0 rfl 31 #[.bool u, .int .u16 k] r0 2 Try.underlying31 rfl size31 rfl ?_)
        | (have hh := hpi; clear hh; go_at_call 22; refine Calls.mono hpi ?_; clear hpi; rintro e W1 ⟨he, hb1⟩; obtain rfl := he; have r01 := r0.below hb1 r0.lt; have r11 := r1.below hb1 r1.lt; have hri := HRI.out W1)
        | (have hh := tm; clear hh tm; refine load_cells_g (by rfl) 31 (.tmp 4) rfl A0 rfl 31 #[.bool u, .int .u16 k] r01 2 Try.underlying31 rfl size31 rfl ?_)
        | (have hh := tn; clear hh tn; refine load_cells_g (by rfl) 34 (.tmp 5) rfl A1 rfl 34 PB r11 224 Try.underlying34 rfl size34 HPS.out ?_)
        | (have hh := hri; clear hh; go_at_call 53; refine Calls.mono hri ?_; clear hri; rintro e W2 ⟨he, hb2⟩; obtain rfl := he))
      rw [HPP.out, HE.out.1, HE.out.2]
      exact ⟨rfl, CStep.ahead HAB.out (CStep.same HCW.out (hb1.trans (hb2.mono hb1.size)))⟩
    | true =>
      have hE0 : putE s u k p = 0 := by unfold putE; rw [if_neg HP0.out, HBR.out]; rfl
      cases hpq : posF s.fs u k with
      | none => exact absurd (by unfold pinsC; rw [hpq]) HP0.out
      | some i =>
        obtain ⟨f0, hf0, _, _⟩ := posF_some hpq
        have HFX : Hid (s.fs[i]? = some f0) := hf0
        have HIL : Hid (i < s.fs.length) := posF_lt hpq
        have HE : Hid (putE s u k p = 0 ∧ putS s u k p = { s with fs := s.fs.set i (putF f0 p) }) := ⟨hE0, by unfold putS; rw [if_pos hE0, hpq]; simp only [hf0]⟩
        have HWH : Hid (whereF s.fs u k = some (i : Int)) := where_some hpq
        have HGO : Hid (∀ f ∈ s.fs, f.Ok) := HOK.out.fs
        have HFO : Hid f0.Ok := HOK.out.fs f0 (List.mem_of_getElem? hf0)
        have hil3 : (i : Int) < (s.fs.length : Int) := by have := HIL.out; omega
        have HL32 : Hid (s.fs.length ≤ 32) := by have := HOK.out.few; have := HOK.out.most.2; show _ ≤ _; omega
        clear hpq hf0 hE0
        go_upto_region 3 with (first
          | (have hh := tl; clear hh tl; refine load_cells rfl 31 (.tmp 4) rfl A0 rfl 31 #[.bool u, .int .u16 k] r0 2 Try.underlying31 rfl size31 rfl ?_)
          | (have hh := hpi; clear hh; go_at_call 22; refine Calls.mono hpi ?_; clear hpi; rintro e W1 ⟨he, hb1⟩; obtain rfl := he; have r01 := r0.below hb1 r0.lt; have r11 := r1.below hb1 r1.lt; have hri := HRI.out W1)
          | (have hh := tm; clear hh tm; refine load_cells_g (by rfl) 31 (.tmp 4) rfl A0 rfl 31 #[.bool u, .int .u16 k] r01 2 Try.underlying31 rfl size31 rfl ?_)
          | (have hh := tn; clear hh tn; refine load_cells_g (by rfl) 34 (.tmp 5) rfl A1 rfl 34 PB r11 224 Try.underlying34 rfl size34 HPS.out ?_)
          | (have hh := hri; clear hh; go_at_call 53; refine Calls.mono hri ?_; clear hri; rintro e W2 ⟨he, hb2⟩; obtain rfl := he))
        have r02 := r01.below hb2 r01.lt
        have r12 := r11.below hb2 r11.lt
        have hst3 := CStep.same HCW.out (hb1.trans (hb2.mono hb1.size))
        obtain ⟨fv, m, n, hnn, hH0, hok0⟩ := HStep.start hst3
        obtain ⟨a, cap, e9⟩ := own_some hH0.cb.own (by have := HIL.out; omega)
        subst e9
        have HLK : Hid (∀ W, WMap W m n (whereF s.fs) → (Instr.lookup 115 (.map (some m)) (.agg #[.bool u, .int .u16 k]) false).run Try.prog W = .ok (.int .i64 i) W) := fun W h => by
          have := h.look (u := u) (k := k) HK.out
          rw [HWH.out] at this
          exact this
        refine wp_region_held_drew (S := fun W => Row W gc (ccells gd gl gk (.slice (some ⟨a, 0, none⟩) s.fs.length cap) m s) 117 ∧ Row W A0 #[.bool u, .int .u16 k] 31 ∧ WMap W m n (whereF s.fs)) (by kernel_rfl) ⟨hH0.cb.row, r02, hH0.cb.map⟩ fun hS => ?_
        refine tkI (i := 0) (v := .pointer (some ⟨gc, 0, none⟩)) rfl (Or.inl ⟨by rfl, fun w _ => by rfl⟩) hS ?_
        try simp only [Act.put, nz]
        refine tkI (i := 1) (v := .pointer (some ⟨gc, 0, none⟩)) rfl (Or.inl ⟨by rfl, fun w _ => by go_simp⟩) hS ?_
        try simp only [Act.put, nz]
        refine tkI (i := 2) (v := .pointer (some ⟨gc, 6, none⟩)) rfl (Or.inl ⟨by rfl, fun w _ => by go_simp⟩) hS ?_
        try simp only [Act.put, nz]
        refine tkI (i := 3) (v := .slice (some ⟨a, 0, none⟩) s.fs.length cap) rfl (Or.inl ⟨by rfl, fun w h => by have c : w.cell? ⟨gc, 6, none⟩ = some (.slice (some ⟨a, 0, none⟩) s.fs.length cap) := row_at h.1 6 _ rfl; go_simp⟩) hS ?_
        try simp only [Act.put, nz]
        refine tkI (i := 4) (v := .pointer (some ⟨gc, 0, none⟩)) rfl (Or.inl ⟨by rfl, fun w _ => by rfl⟩) hS ?_
        try simp only [Act.put, nz]
        refine tkI (i := 5) (v := .pointer (some ⟨gc, 0, none⟩)) rfl (Or.inl ⟨by rfl, fun w _ => by go_simp⟩) hS ?_
        try simp only [Act.put, nz]
        refine tkI (i := 6) (v := .pointer (some ⟨gc, 7, none⟩)) rfl (Or.inl ⟨by rfl, fun w _ => by go_simp⟩) hS ?_
        try simp only [Act.put, nz]
        refine tkI (i := 7) (v := .map (some m)) rfl (Or.inl ⟨by rfl, fun w h => by have c : w.cell? ⟨gc, 7, none⟩ = some (.map (some m)) := row_at h.1 7 _ rfl; go_simp⟩) hS ?_
        try simp only [Act.put, nz]
        refine tkI (i := 8) (v := .agg #[.bool u, .int .u16 k]) rfl (yields_cells (by rfl) 31 (.tmp 4) rfl A0 rfl 31 #[.bool u, .int .u16 k] (fun w h => h.2.1) 2 Try.underlying31 rfl size31 rfl) hS ?_
        try simp only [Act.put, nz]
        refine tkI (i := 9) (v := .int .i64 i) rfl (Or.inl ⟨by rfl, fun w h => by have c := HLK.out w h.2.2; go_simp⟩) hS ?_
        try simp only [Act.put, nz]
        refine tkI (i := 10) (v := .pointer (some ⟨a, i * 229, none⟩)) rfl (Or.inl ⟨by rfl, fun w _ => by go_simp⟩) hS ?_
        try simp only [Act.put, nz]
        refine tkI (i := 11) (v := .pointer (some ⟨a, i * 229, none⟩)) rfl (Or.inl ⟨by rfl, fun w _ => by go_simp⟩) hS ?_
        try simp only [Act.put, nz]
        refine wpAnyH_done (by kernel_rfl) ?_ _
        have hbd : Below W2.heap.size W2 W2.drew := (Below.refl _ _).drew
        have HH5 : Hid (HStep W0 F gc gd gl gk ak (.slice (some ⟨a, 0, none⟩) (s.fs).length cap) m n s (s.fs) (whereF s.fs) l d M N W2.drew) := hH0.below hbd
        have r15 := r12.below hbd r12.lt
        clear hS HLK hnn hH0 hok0 hst3 r02 r12 r01 r11 r0 r1 hb1 hb2 hbd
        generalize W2.drew = W5 at HH5 r15 ⊢
        cases hd : f0.dirty with
        | true =>
          have HHd : Hid (f0.dirty = true) := hd
          clear hd
          have hgo := HGO.out
          have hth := HH5.out.cb.there hgo (i := i) HIL.out
          have hth4 : W5.there a (i * 229 + 2) PB.size := by rw [HPS.out]; exact fun j hj => by have := hth (2 + j) (by omega); rw [← Nat.add_assoc] at this; exact this
          have HH6 : Hid (HStep W0 F gc gd gl gk ak (.slice (some ⟨a, 0, none⟩) (s.fs.set i { f0 with p := p }).length cap) m n s (s.fs.set i { f0 with p := p }) (whereF s.fs) l d M N (W5.setCells a (i * 229 + 2) PB.toList)) := by
            have := HH5.out.splice hgo HFX.out { f0 with p := p } 2 (p.map (Value.int .u8)) (by rw [List.length_map, HPN.out]; omega) (cells_pay HFO.out.len p HPN.out)
            rw [← HPBD.out]
            exact this
          have HG6 : Hid ((s.fs.set i { f0 with p := p })[i]? = some { f0 with p := p }) := by show _ = _; rw [List.getElem?_set_self HIL.out]
          have HK6 : Hid (∀ g ∈ s.fs.set i { f0 with p := p }, g.Ok) := fun g hg => by
            rcases List.mem_or_eq_of_mem_set hg with y | y
            · exact HGO.out g y
            · rw [y]; exact ⟨HPN.out, HPY.out, HFO.out.no, HFO.out.first⟩
          clear hth hgo
          have ts : Hid (1 = 1) := rfl
          have tl5 : Hid (1 = 1) := rfl
          go_upto_region 5 with (first
            | (have hh := tl5; clear hh tl5; refine load_cells rfl 34 (.tmp 5) rfl A1 rfl 34 PB r15 224 Try.underlying34 rfl size34 HPS.out ?_)
            | (have hh := ts; clear hh ts; refine wpList_store_mid rfl 34 (.tmp 32) (.tmp 30) rfl a (i * 229 + 2) PB rfl rfl hth4 (by rw [HPS.out]; exact size34) hpo ?_))
          have r16 : Row (W5.setCells a (i * 229 + 2) PB.toList) A1 PB 34 := r15.off (Off.of_setCells a _ _ _) (fun q => by obtain ⟨cur, hcc⟩ := own_at HH5.out.cb.own; exact ne_rows r15 hcc (by decide) q)
          clear hth4 r15
          generalize W5.setCells a (i * 229 + 2) PB.toList = W6 at HH6 r16 ⊢
          have q226 := HH6.out.cb.cells HK6.out HG6.out 226 (.bool f0.torn) (by rw [Fm.cells_pre, List.getElem?_append_right (by rw [Fm.pre_length HPN.out]; omega), Fm.pre_length HPN.out]; rfl)
          have z226 := HH6.out.cb.own.frozenAt (i * 229 + 226)
          have HH7 : Hid (HStep W0 F gc gd gl gk ak (.slice (some ⟨a, 0, none⟩) ((s.fs.set i { f0 with p := p }).set i { f0 with p := p, torn := false }).length cap) m n s ((s.fs.set i { f0 with p := p }).set i { f0 with p := p, torn := false }) (whereF s.fs) l d M N (W6.setCell ⟨a, i * 229 + 226, none⟩ (.bool false))) := HH6.out.splice HK6.out HG6.out { f0 with p := p, torn := false } 226 [.bool false] (by simp) (cells_torn (f := { f0 with p := p }) HPN.out false)
          go_upto_region 6 with fail
          rw [List.set_set] at HH7
          have r17 : Row (W6.setCell ⟨a, i * 229 + 226, none⟩ (.bool false)) A1 PB 34 := r16.off (Off.of_setCell (F := (· = a)) _ _ _ rfl) (fun q => by obtain ⟨cur, hcc⟩ := own_at HH6.out.cb.own; exact ne_rows r16 hcc (by decide) q)
          clear q226 z226 r16
          generalize W6.setCell ⟨a, i * 229 + 226, none⟩ (.bool false) = W7 at HH7 r17 ⊢
          have HG7 : Hid ((s.fs.set i { f0 with p := p, torn := false })[i]? = some { f0 with p := p, torn := false }) := by show _ = _; rw [List.getElem?_set_self HIL.out]
          have HK7 : Hid (∀ g ∈ s.fs.set i { f0 with p := p, torn := false }, g.Ok) := fun g hg => by
            rcases List.mem_or_eq_of_mem_set hg with y | y
            · exact HGO.out g y
            · rw [y]; exact ⟨HPN.out, HPY.out, HFO.out.no, HFO.out.first⟩
          have q227 : W7.cell? ⟨a, i * 229 + 227, none⟩ = some (.bool true) := HH7.out.cb.cells HK7.out HG7.out 227 (.bool true) (by rw [Fm.cells_pre, List.getElem?_append_right (by rw [Fm.pre_length HPN.out]; omega), Fm.pre_length HPN.out]; show some (Value.bool f0.dirty) = _; rw [HHd.out])
          go_wp2
          rw [HPP.out, HE.out.1]
          refine ⟨rfl, ?_⟩
          rw [HE.out.2]
          have e9 : putF f0 p = { f0 with p := p, torn := false } := by unfold putF; rw [HHd.out]; simp only [if_true]
          rw [e9]
          refine CStep.ahead HAB.out (HStep.done2 HH7.out (where_set (f' := { f0 with p := p, torn := false }) HFX.out rfl rfl).symm ?_ HFW.out)
          exact HOK.out.turn HFX.out ⟨HPN.out, HPY.out, HFO.out.no, HFO.out.first⟩ rfl rfl
        | false =>
          have HHd : Hid (f0.dirty = false) := hd
          clear hd
          have hgo := HGO.out
          have hth := HH5.out.cb.there hgo (i := i) HIL.out
          have hth4 : W5.there a (i * 229 + 2) PB.size := by rw [HPS.out]; exact fun j hj => by have := hth (2 + j) (by omega); rw [← Nat.add_assoc] at this; exact this
          have HH6 : Hid (HStep W0 F gc gd gl gk ak (.slice (some ⟨a, 0, none⟩) (s.fs.set i { f0 with p := p }).length cap) m n s (s.fs.set i { f0 with p := p }) (whereF s.fs) l d M N (W5.setCells a (i * 229 + 2) PB.toList)) := by
            have := HH5.out.splice hgo HFX.out { f0 with p := p } 2 (p.map (Value.int .u8)) (by rw [List.length_map, HPN.out]; omega) (cells_pay HFO.out.len p HPN.out)
            rw [← HPBD.out]
            exact this
          have HG6 : Hid ((s.fs.set i { f0 with p := p })[i]? = some { f0 with p := p }) := by show _ = _; rw [List.getElem?_set_self HIL.out]
          have HK6 : Hid (∀ g ∈ s.fs.set i { f0 with p := p }, g.Ok) := fun g hg => by
            rcases List.mem_or_eq_of_mem_set hg with y | y
            · exact HGO.out g y
            · rw [y]; exact ⟨HPN.out, HPY.out, HFO.out.no, HFO.out.first⟩
          clear hth hgo
          have ts : Hid (1 = 1) := rfl
          have tl5 : Hid (1 = 1) := rfl
          go_upto_region 5 with (first
            | (have hh := tl5; clear hh tl5; refine load_cells rfl 34 (.tmp 5) rfl A1 rfl 34 PB r15 224 Try.underlying34 rfl size34 HPS.out ?_)
            | (have hh := ts; clear hh ts; refine wpList_store_mid rfl 34 (.tmp 32) (.tmp 30) rfl a (i * 229 + 2) PB rfl rfl hth4 (by rw [HPS.out]; exact size34) hpo ?_))
          have r16 : Row (W5.setCells a (i * 229 + 2) PB.toList) A1 PB 34 := r15.off (Off.of_setCells a _ _ _) (fun q => by obtain ⟨cur, hcc⟩ := own_at HH5.out.cb.own; exact ne_rows r15 hcc (by decide) q)
          clear hth4 r15
          generalize W5.setCells a (i * 229 + 2) PB.toList = W6 at HH6 r16 ⊢
          have q226 := HH6.out.cb.cells HK6.out HG6.out 226 (.bool f0.torn) (by rw [Fm.cells_pre, List.getElem?_append_right (by rw [Fm.pre_length HPN.out]; omega), Fm.pre_length HPN.out]; rfl)
          have z226 := HH6.out.cb.own.frozenAt (i * 229 + 226)
          have HH7 : Hid (HStep W0 F gc gd gl gk ak (.slice (some ⟨a, 0, none⟩) ((s.fs.set i { f0 with p := p }).set i { f0 with p := p, torn := false }).length cap) m n s ((s.fs.set i { f0 with p := p }).set i { f0 with p := p, torn := false }) (whereF s.fs) l d M N (W6.setCell ⟨a, i * 229 + 226, none⟩ (.bool false))) := HH6.out.splice HK6.out HG6.out { f0 with p := p, torn := false } 226 [.bool false] (by simp) (cells_torn (f := { f0 with p := p }) HPN.out false)
          go_upto_region 6 with fail
          rw [List.set_set] at HH7
          have r17 : Row (W6.setCell ⟨a, i * 229 + 226, none⟩ (.bool false)) A1 PB 34 := r16.off (Off.of_setCell (F := (· = a)) _ _ _ rfl) (fun q => by obtain ⟨cur, hcc⟩ := own_at HH6.out.cb.own; exact ne_rows r16 hcc (by decide) q)
          clear q226 z226 r16
          generalize W6.setCell ⟨a, i * 229 + 226, none⟩ (.bool false) = W7 at HH7 r17 ⊢
          have HG7 : Hid ((s.fs.set i { f0 with p := p, torn := false })[i]? = some { f0 with p := p, torn := false }) := by show _ = _; rw [List.getElem?_set_self HIL.out]
          have HK7 : Hid (∀ g ∈ s.fs.set i { f0 with p := p, torn := false }, g.Ok) := fun g hg => by
            rcases List.mem_or_eq_of_mem_set hg with y | y
            · exact HGO.out g y
            · rw [y]; exact ⟨HPN.out, HPY.out, HFO.out.no, HFO.out.first⟩
          have q227 : W7.cell? ⟨a, i * 229 + 227, none⟩ = some (.bool false) := HH7.out.cb.cells HK7.out HG7.out 227 (.bool false) (by rw [Fm.cells_pre, List.getElem?_append_right (by rw [Fm.pre_length HPN.out]; omega), Fm.pre_length HPN.out]; show some (Value.bool f0.dirty) = _; rw [HHd.out])
          have z227 := HH7.out.cb.own.frozenAt (i * 229 + 227)
          have HH8 : Hid (HStep W0 F gc gd gl gk ak (.slice (some ⟨a, 0, none⟩) ((s.fs.set i { f0 with p := p, torn := false }).set i { f0 with p := p, torn := false, dirty := true }).length cap) m n s ((s.fs.set i { f0 with p := p, torn := false }).set i { f0 with p := p, torn := false, dirty := true }) (whereF s.fs) l d M N (W7.setCell ⟨a, i * 229 + 227, none⟩ (.bool true))) := HH7.out.splice HK7.out HG7.out { f0 with p := p, torn := false, dirty := true } 227 [.bool true] (by simp) (cells_dirty (f := { f0 with p := p, torn := false }) HPN.out true)
          go_upto_region 8 with fail
          rw [List.set_set] at HH8
          have r18 : Row (W7.setCell ⟨a, i * 229 + 227, none⟩ (.bool true)) A1 PB 34 := r17.off (Off.of_setCell (F := (· = a)) _ _ _ rfl) (fun q => by obtain ⟨cur, hcc⟩ := own_at HH7.out.cb.own; exact ne_rows r17 hcc (by decide) q)
          clear q227 z227 r17
          generalize W7.setCell ⟨a, i * 229 + 227, none⟩ (.bool true) = W8 at HH8 r18 ⊢
          have HG8 : Hid ((s.fs.set i { f0 with p := p, torn := false, dirty := true })[i]? = some { f0 with p := p, torn := false, dirty := true }) := by show _ = _; rw [List.getElem?_set_self HIL.out]
          have HK8 : Hid (∀ g ∈ s.fs.set i { f0 with p := p, torn := false, dirty := true }, g.Ok) := fun g hg => by
            rcases List.mem_or_eq_of_mem_set hg with y | y
            · exact HGO.out g y
            · rw [y]; exact ⟨HPN.out, HPY.out, HFO.out.no, HFO.out.first⟩
          have hls : Calls Try.prog 12 #[.agg PB] W8 fun e w' => e = .returned (.int .u64 (lsnP p)) ∧ Below W8.heap.size W8 w' := by rw [← HPBD.out]; exact lsn_any p W8 HPN.out
          have tl8 : Hid (1 = 1) := rfl
          go_wp2_with (first
            | (have hh := tl8; clear hh tl8; refine load_cells rfl 34 (.tmp 5) rfl A1 rfl 34 PB r18 224 Try.underlying34 rfl size34 HPS.out ?_)
            | (have hh := hls; clear hh; go_at_call 12; refine Calls.mono hls ?_; clear hls; rintro e W9 ⟨he, hb9⟩; obtain rfl := he; have hH9 := HH8.out.below hb9; have q228 := hH9.cb.cells HK8.out HG8.out 228 (.int .u64 f0.first) (by rw [Fm.cells_pre, List.getElem?_append_right (by rw [Fm.pre_length HPN.out]; omega), Fm.pre_length HPN.out]; rfl); have z228 := hH9.cb.own.frozenAt (i * 229 + 228)))
          have HH10 : Hid (HStep W0 F gc gd gl gk ak (.slice (some ⟨a, 0, none⟩) ((s.fs.set i { f0 with p := p, torn := false, dirty := true }).set i { f0 with p := p, torn := false, dirty := true, first := lsnP p }).length cap) m n s ((s.fs.set i { f0 with p := p, torn := false, dirty := true }).set i { f0 with p := p, torn := false, dirty := true, first := lsnP p }) (whereF s.fs) l d M N (W9.setCell ⟨a, i * 229 + 228, none⟩ (.int .u64 (lsnP p)))) := hH9.splice HK8.out HG8.out { f0 with p := p, torn := false, dirty := true, first := lsnP p } 228 [.int .u64 (lsnP p)] (by simp) (cells_first (f := { f0 with p := p, torn := false, dirty := true }) HPN.out (lsnP p))
          rw [List.set_set] at HH10
          rw [HPP.out, HE.out.1]
          refine ⟨rfl, ?_⟩
          rw [HE.out.2]
          have e9 : putF f0 p = { f0 with p := p, torn := false, dirty := true, first := lsnP p } := by unfold putF; rw [HHd.out]; simp
          rw [e9]
          refine CStep.ahead HAB.out (HStep.done2 HH10.out (where_set (f' := { f0 with p := p, torn := false, dirty := true, first := lsnP p }) HFX.out rfl rfl).symm ?_ HFW.out)
          exact HOK.out.turn HFX.out ⟨HPN.out, HPY.out, HFO.out.no, lsnP_in p⟩ rfl rfl
def newC (pages undo most : Nat) : Cs := ⟨pages, undo, most, [], Cl.newF most, 0⟩
theorem newC_ok {pages undo most : Nat} (h1 : 1 ≤ pages ∧ pages ≤ 16) (h2 : 1 ≤ undo ∧ undo ≤ 32) (h3 : 4 ≤ most ∧ most ≤ 32) : (newC pages undo most).Ok :=
  by
  refine ⟨h1, h2, h3, (fun f hf => nomatch hf), Nat.zero_le _, fun i j f g h => ?_, Cl.newF_length _, (fun f hf => nomatch hf)⟩
  have h' : ([] : List Fm)[i]? = some f := h
  simp at h'
theorem built117 (gd gl gk m : Nat) (pages undo most : Int) : Try.prog.built 117 [(0, .pointer (some ⟨gd, 0, none⟩)), (1, .iface 24 (.pointer (some ⟨gl, 0, none⟩))), (2, .pointer (some ⟨gk, 0, none⟩)), (3, .int .i64 pages), (4, .int .i64 undo), (5, .int .i64 most), (7, .map (some m))] = some #[.pointer (some ⟨gd, 0, none⟩), .iface 24 (.pointer (some ⟨gl, 0, none⟩)), .pointer (some ⟨gk, 0, none⟩), .int .i64 pages, .int .i64 undo, .int .i64 most, .slice none 0 0, .map (some m)] := by kernel_rfl
def NewQ (w : World) (gd gl : Nat) (F : Nat → Prop) (pages undo most : Nat) (l : Lg) (d : Dsk) (N : Nat) (e : Ending) (w' : World) : Prop :=
  ∃ gc gk ak, e = .returned (.pointer (some ⟨gc, 0, none⟩)) ∧ Below w.heap.size w w' ∧ w.heap.size ≤ gc ∧ ∃ F', CL w' F' gc gd gl gk ak (newC pages undo most) l d 0 N ∧ ∀ j, F' j → F j ∨ w.heap.size ≤ j
set_option maxHeartbeats 2000000 in
theorem cnew_some {w : World} {gd gl : Nat} {F : Nat → Prop} {l : Lg} {d : Dsk} {N : Nat} {vl vs : Value} {L : Loc} (lD : LD w gl gd vl vs L l d N) (hF : ∀ j, lfoot gl gd vl vs L j → F j) (pages undo most : Nat) (h1 : 1 ≤ pages ∧ pages ≤ 16) (h2 : 1 ≤ undo ∧ undo ≤ 32) (h3 : 4 ≤ most ∧ most ≤ 32) (hn : 2 + pages + undo ≤ d.n) :
    Calls Try.prog 28 #[.pointer (some ⟨gd, 0, none⟩), .pointer (some ⟨gl, 0, none⟩), .int .i64 most, .int .i64 pages, .int .i64 undo] w fun e w' => NewQ w gd gl F pages undo most l d N e w' := by
  obtain ⟨PP, HPP⟩ : ∃ PP : Ending → World → Prop, Hid (PP = fun e w' => NewQ w gd gl F pages undo most l d N e w') := ⟨_, rfl⟩
  rw [← HPP.out]
  have HPO : Hid (∀ gc gk ak W, Below w.heap.size w W → w.heap.size ≤ gc → (∃ F', CL W F' gc gd gl gk ak (newC pages undo most) l d 0 N ∧ ∀ j, F' j → F j ∨ w.heap.size ≤ j) → PP (.returned (.pointer (some ⟨gc, 0, none⟩))) W) := by
    rw [HPP.out]
    exact fun gc gk ak W a b c => ⟨gc, gk, ak, rfl, a, b, c⟩
  clear HPP
  have a1 := cwithin_any (most : Int) 4 32 w
  rw [decide_eq_true (by omega)] at a1
  have a2 := cwithin_any (pages : Int) 1 16 w
  rw [decide_eq_true (by omega)] at a2
  have a3 := cwithin_any (undo : Int) 1 32 w
  rw [decide_eq_true (by omega)] at a3
  have a4 := size_any lD.dsk
  have a5 := Cl.new_some most (by omega) (by omega) w
  have HLD : Hid (LD w gl gd vl vs L l d N) := lD
  have HFF : Hid (∀ j, lfoot gl gd vl vs L j → F j) := hF
  have HOKC : Hid ((newC pages undo most).Ok) := newC_ok h1 h2 h3
  have hw1 : IntKind.i64.wrap (2 + (pages : Int)) = 2 + (pages : Int) := by rw [IntKind.wrap_i64]; omega
  have hw2 : IntKind.i64.wrap (2 + (pages : Int) + (undo : Int)) = 2 + (pages : Int) + (undo : Int) := by rw [IntKind.wrap_i64]; omega
  have hlt : decide ((d.n : Int) < 2 + (pages : Int) + (undo : Int)) = false := decide_eq_false (by omega)
  have hlt2 : ¬ ((d.n : Int) < 2 + (pages : Int) + (undo : Int)) := by omega
  have hmm := @run_makeMap Try.prog
  clear lD hF h1 h2 h3 hn
  have tb : Hid (1 = 1) := rfl
  go_enter Try.func28, Try.ntmps28
  go_wp2_with (first
    | (have hh := a1; clear hh; go_at_call 61; refine Calls.mono a1 ?_; clear a1; rintro e Wq ⟨he, hww⟩; rw [hww]; clear hww Wq; obtain rfl := he)
    | (have hh := a2; clear hh; go_at_call 61; refine Calls.mono a2 ?_; clear a2; rintro e Wq ⟨he, hww⟩; rw [hww]; clear hww Wq; obtain rfl := he)
    | (have hh := a3; clear hh; go_at_call 61; refine Calls.mono a3 ?_; clear a3; rintro e Wq ⟨he, hww⟩; rw [hww]; clear hww Wq; obtain rfl := he)
    | (have hh := a4; clear hh; go_at_call 62; refine Calls.mono a4 ?_; clear a4; rintro e Wq ⟨he, hww⟩; rw [hww]; clear hww Wq; obtain rfl := he)
    | (have hh := a5; clear hh; go_at_call 63; refine Calls.mono a5 ?_; clear a5; rintro e W1 ⟨gk, ak, he, hgk, hak, hca, hb1⟩; obtain rfl := he; have bu := built117 gd gl gk W1.heap.size pages undo most)
    | (have hh := tb; clear hh tb; refine build_parts rfl 117 #[(0, .tmp 39), (1, .tmp 41), (2, .tmp 43), (3, .tmp 44), (4, .tmp 45), (5, .tmp 46), (7, .tmp 47)] rfl [(0, .pointer (some ⟨gd, 0, none⟩)), (1, .iface 24 (.pointer (some ⟨gl, 0, none⟩))), (2, .pointer (some ⟨gk, 0, none⟩)), (3, .int .i64 pages), (4, .int .i64 undo), (5, .int .i64 most), (7, .map (some W1.heap.size))] rfl #[.pointer (some ⟨gd, 0, none⟩), .iface 24 (.pointer (some ⟨gl, 0, none⟩)), .pointer (some ⟨gk, 0, none⟩), .int .i64 pages, .int .i64 undo, .int .i64 most, .slice none 0 0, .map (some W1.heap.size)] bu ?_))
  have e1 : (W1.alloc (.map #[] 0)).heap.size = W1.heap.size + 1 := Array.size_push ..
  have b2 : Below W1.heap.size W1 (W1.alloc (.map #[] 0)) := (Below.refl _ _).alloc (Nat.le_refl _) _
  have b3 : Below W1.heap.size W1 ((W1.alloc (.map #[] 0)).alloc (.cells #[.pointer (some ⟨gd, 0, none⟩), .iface 24 (.pointer (some ⟨gl, 0, none⟩)), .pointer (some ⟨gk, 0, none⟩), .int .i64 pages, .int .i64 undo, .int .i64 most, .slice none 0 0, .map (some W1.heap.size)] 117)) := b2.alloc b2.size _
  have rr : Row ((W1.alloc (.map #[] 0)).alloc (.cells #[.pointer (some ⟨gd, 0, none⟩), .iface 24 (.pointer (some ⟨gl, 0, none⟩)), .pointer (some ⟨gk, 0, none⟩), .int .i64 pages, .int .i64 undo, .int .i64 most, .slice none 0 0, .map (some W1.heap.size)] 117)) (W1.heap.size + 1) #[.pointer (some ⟨gd, 0, none⟩), .iface 24 (.pointer (some ⟨gl, 0, none⟩)), .pointer (some ⟨gk, 0, none⟩), .int .i64 pages, .int .i64 undo, .int .i64 most, .slice none 0 0, .map (some W1.heap.size)] 117 := by
    have := Row.new (W1.alloc (.map #[] 0)) #[.pointer (some ⟨gd, 0, none⟩), .iface 24 (.pointer (some ⟨gl, 0, none⟩)), .pointer (some ⟨gk, 0, none⟩), .int .i64 pages, .int .i64 undo, .int .i64 most, .slice none 0 0, .map (some W1.heap.size)] 117
    rw [e1] at this; exact this
  have mm : WMap ((W1.alloc (.map #[] 0)).alloc (.cells #[.pointer (some ⟨gd, 0, none⟩), .iface 24 (.pointer (some ⟨gl, 0, none⟩)), .pointer (some ⟨gk, 0, none⟩), .int .i64 pages, .int .i64 undo, .int .i64 most, .slice none 0 0, .map (some W1.heap.size)] 117)) W1.heap.size 0 (fun _ _ => none) :=
    (WMap.made W1).off (F := fun _ => False) (Off.of_below ((Below.refl _ _).alloc (Nat.le_refl _) _)) (fun q => q)
  have hck := hca.below b3
  have hsz := hb1.size
  have hld := HLD.out.below (hb1.trans (b3.mono hb1.size))
  have hbb := hb1.trans (b3.mono hb1.size)
  try rw [e1]
  generalize (W1.alloc (.map #[] 0)).alloc (.cells #[.pointer (some ⟨gd, 0, none⟩), .iface 24 (.pointer (some ⟨gl, 0, none⟩)), .pointer (some ⟨gk, 0, none⟩), .int .i64 pages, .int .i64 undo, .int .i64 most, .slice none 0 0, .map (some W1.heap.size)] 117) = W2 at rr mm hck hld hbb ⊢
  refine HPO.out (W1.heap.size + 1) gk ak W2 hbb (by omega) ⟨fun j => lfoot gl gd vl vs L j ∨ cfoot (W1.heap.size + 1) gk ak (.slice none 0 0) W1.heap.size j, ⟨⟨.slice none 0 0, W1.heap.size, 0, vl, vs, L, ⟨rr, ⟨rfl, Or.inl ⟨rfl, rfl⟩⟩, mm, hck, by omega⟩, hld, fun j q q2 => ?_, fun j q => q⟩, HOKC.out, fun j q => ?_⟩, fun j q => ?_⟩
  · have := HLD.out.lt q
    rcases q2 with q2 | q2 | q2 | q2 | q2
    · omega
    · cases q2
    · omega
    · omega
    · omega
  · rcases q with q | q
    · exact hld.lt q
    · rcases q with q | q | q | q | q
      · rw [q]; exact rr.lt
      · cases q
      · rw [q]; exact mm.lt
      · rw [q]; exact hck.row.lt
      · rw [q]; exact hck.arr.lt
  · rcases q with q | q
    · exact Or.inl (HFF.out j q)
    · rcases q with q | q | q | q | q
      · exact Or.inr (by omega)
      · cases q
      · exact Or.inr (by omega)
      · exact Or.inr (by omega)
      · exact Or.inr (by omega)
def log0 : Lg := ⟨12, 48, 1, [], [], ByteArray.empty, 0, true, 1, 1⟩
theorem LStep.fresh {w w1 w2 : World} {gd gl : Nat} {d : Dsk} {L : Loc} {N : Nat} {a z ep num fin : Int} (hD : DAt w1 gd d L N) (hb : Below w1.heap.size w1 w2) (hg : w1.heap.size ≤ gl) (hr : Row w2 gl (lcells (.pointer (some ⟨gd, 0, none⟩)) (.slice none 0 0) (.slice none 0 0) ⟨a, z, ep, [], [], ByteArray.empty, num, true, fin, fin⟩) 99) (F : Nat → Prop) (o : Off F w w1) (hF : ∀ j, foot gd L j → F j ∨ w.heap.size ≤ j) :
    LStep w gl gd F ⟨a, z, ep, [], [], ByteArray.empty, num, true, fin, fin⟩ d N w2 := by
  refine ⟨_, _, L, ⟨hr, OwnU.nil _ _, OwnCk.nil _ _, hD.below hb, (fun q => by have := hD.lt q; omega), (fun j q => by cases q), (fun j q => by cases q)⟩, o.trans (Off.of_below (F := fun _ => False) hb) (fun _ q => q.elim), fun j q => ?_⟩
  have := o.size
  rcases q with q | q | q | q
  · exact Or.inr (by omega)
  · cases q
  · cases q
  · exact hF j q
def OverQ (w : World) (fr : Nat) (e : Ending) (w' : World) : Prop :=
  ∃ gd gl gc gk ak F', e = .returned (.tuple #[.pointer (some ⟨gd, 0, none⟩), .pointer (some ⟨gl, 0, none⟩), .pointer (some ⟨gc, 0, none⟩)]) ∧ Below w.heap.size w w' ∧ CL w' F' gc gd gl gk ak (newC 4 5 fr) log0 (Dsk.new 60) 0 0 ∧ ∀ j, F' j → w.heap.size ≤ j
set_option maxHeartbeats 2000000 in
theorem over_any (fr : Nat) (h : 4 ≤ fr ∧ fr ≤ 32) (w : World) : Calls Try.prog 8 #[.int .i64 fr] w fun e w' => OverQ w fr e w' := by
  obtain ⟨PP, HPP⟩ : ∃ PP : Ending → World → Prop, Hid (PP = fun e w' => OverQ w fr e w') := ⟨_, rfl⟩
  rw [← HPP.out]
  have HPO : Hid (∀ gd gl gc gk ak F' W, Below w.heap.size w W → CL W F' gc gd gl gk ak (newC 4 5 fr) log0 (Dsk.new 60) 0 0 → (∀ j, F' j → w.heap.size ≤ j) → PP (.returned (.tuple #[.pointer (some ⟨gd, 0, none⟩), .pointer (some ⟨gl, 0, none⟩), .pointer (some ⟨gc, 0, none⟩)])) W) := by
    rw [HPP.out]
    exact fun gd gl gc gk ak F' W a b c => ⟨gd, gl, gc, gk, ak, F', rfl, a, b, c⟩
  clear HPP
  have a1 := new_some 60 (by omega) (by omega) w
  obtain ⟨gd, HGD⟩ : ∃ gd, Hid (w.heap.size + 2 = gd) := ⟨_, rfl⟩
  rw [HGD.out] at a1
  have HH : Hid (4 ≤ fr ∧ fr ≤ 32) := h
  clear h
  go_enter Try.func8, Try.ntmps8
  go_wp2_with (first
    | (have hh := a1; clear hh; go_at_call 34; refine Calls.mono a1 ?_; clear a1; rintro e W1 ⟨he, hD, hb1⟩; obtain rfl := he; have a2 := lnew_nil (some ⟨gd, 0, none⟩) 12 48 1 0 1 60 W1 (by decide) (by decide) (fun wa hb => size_any (hD.below hb)))
    | (have hh := a2; clear hh; go_at_call 35; refine Calls.mono a2 ?_; clear a2; rintro e W2 ⟨hb2, _, hgl⟩; obtain ⟨gl, hgl1, he, hr⟩ := hgl (by decide); obtain rfl := he; clear hgl; have hst := LStep.fresh (w := W1) hD hb2 hgl1 hr (foot gd (Loc.new w.heap.size)) (Off.refl _ _) (fun j q => Or.inl q); obtain ⟨vl, vs, L, lD, hof, hlf⟩ := hst; have a3 := cnew_some lD (F := fun j => lfoot gl gd vl vs L j) (fun j q => q) 4 5 fr (by decide) (by decide) HH.out (by show 2 + 4 + 5 ≤ 60; omega))
    | (have hh := a3; clear hh; go_at_call 28; refine Calls.mono a3 ?_; clear a3; rintro e W3 ⟨gc, gk, ak, he, hb3, hgc, F3, c3, hF3⟩; obtain rfl := he))
  go_ret3
  refine HPO.out gd gl gc gk ak F3 W3 (hb1.trans ((hb2.mono hb1.size).trans (hb3.mono (Nat.le_trans hb1.size hb2.size)))) c3 fun j q => ?_
  have q1 := hb1.size
  have q2 := hb2.size
  rcases hF3 j q with y | y
  · rcases hlf j y with z | z
    · rw [← HGD.out] at z
      exact new_foot _ _ z
    · omega
  · omega
end Go.Proofs.Ytehogiondcpbcaa
