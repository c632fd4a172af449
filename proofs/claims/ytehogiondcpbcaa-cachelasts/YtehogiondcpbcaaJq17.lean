/-
  Proved here: what is told of a cache: Pins, Resident, Clean, Torn. Proved here: a log and its disk, where the disk is read, written, synced, planned and crashed beside the log. Records of undo pages as values: their cells, lists of them in slices, and when two are alike. Proved here: how many bytes an undo page takes (page.Size), how many records are live (slot.Live). Proved here: whether there may be an undo page (page.May). Proved here: a copy of an undo page (slices.Clone, slot.cloned, and the document's Kept) has the same records, in new memory.
-/
import Derived.Test.YtehogiondcpbcaaJq16
import Derived.Test.YtehogiondcpbcaaJq06
import Derived.Test.YtehogiondcpbcaaJq09
import Derived.Laws.AppendOwnNone
import Derived.Maps.AppendAt
import Derived.Deep.MidRow
import Derived.Deep.CutBlock
import Derived.Great.BuildSlice
import Derived.Laws.Cover3
namespace Go.Proofs.Ytehogiondcpbcaa
open Go.ChangeShapes Go.WideShapes Go.ChangeAt Go.RowKit
set_option linter.unusedVariables false
set_option linter.unusedSimpArgs false
set_option maxRecDepth 20000
theorem cell_keep {w w' : World} {p : Addr} {u : Value} (h : w.cell? p = some u) (hb : Below w.heap.size w w') : w'.cell? p = some u := by
  rw [← h]
  refine World.cell?_of_block (hb.block _ ?_)
  unfold World.cell? at h
  by_cases q : p.block < w.heap.size
  · exact q
  · rw [Array.getElem?_eq_none (by omega)] at h; cases h
theorem where_some {fs : List Fm} {u : Bool} {k : Int} {i : Nat} (h : posF fs u k = some i) : whereF fs u k = some (i : Int) := by unfold whereF; rw [h]; rfl
theorem where_none {fs : List Fm} {u : Bool} {k : Int} (h : posF fs u k = none) : whereF fs u k = none := by unfold whereF; rw [h]; rfl
theorem posF_lt {fs : List Fm} {u : Bool} {k : Int} {i : Nat} (h : posF fs u k = some i) : i < fs.length := by
  obtain ⟨f, hf, _⟩ := posF_some h
  exact (List.getElem?_eq_some_iff.1 hf).1
theorem resident_any {w : World} {gc gd gl gk ak : Nat} {fv : Value} {m n : Nat} {s : Cs} {M : Int} (c : CA w gc gd gl gk ak fv m n s M) (u : Bool) (k : Int) (hk : WfU k) : Calls Try.prog 23 #[.pointer (some ⟨gc, 0, none⟩), idv u k] w fun e w' => e = .returned (.bool (posF s.fs u k).isSome) ∧ Below w.heap.size w w' := by
  obtain ⟨PP, HPP⟩ : ∃ PP : Ending → World → Prop, Hid (PP = fun e w' => e = .returned (.bool (posF s.fs u k).isSome) ∧ Below w.heap.size w w') := ⟨_, rfl⟩
  rw [← HPP.out]
  have r0 : Row (w.alloc (.cells #[.bool u, .int .u16 k] 31)) w.heap.size #[.bool u, .int .u16 k] 31 := Row.new _ _ _
  have ab : Below w.heap.size w (w.alloc (.cells #[.bool u, .int .u16 k] 31)) := (Below.refl _ _).alloc (Nat.le_refl _) _
  have cW := c.below ab
  have hfi := find_any cW u k hk
  unfold idv at hfi ⊢
  obtain ⟨V, HV⟩ : ∃ V, Hid ((whereF s.fs u k).getD 0 = V) := ⟨_, rfl⟩
  obtain ⟨B, HB⟩ : ∃ B, Hid ((whereF s.fs u k).isSome = B) := ⟨_, rfl⟩
  have HB2 : Hid ((posF s.fs u k).isSome = B) := by show _ = _; rw [← HB.out]; unfold whereF; cases posF s.fs u k <;> rfl
  rw [HV.out, HB.out] at hfi
  go_enter Try.func23, Try.ntmps23
  go_upto_region 1 with fail
  generalize w.alloc (.cells #[.bool u, .int .u16 k] 31) = W at r0 ab cW hfi ⊢
  obtain ⟨A0, HA0⟩ : ∃ A0, Hid (w.heap.size = A0) := ⟨_, rfl⟩
  rw [HA0.out] at r0 ⊢
  have tl : Hid (1 = 1) := rfl
  go_wp2_with (first
    | (have hh := tl; clear hh tl; refine load_cells rfl 31 (.tmp 3) rfl A0 rfl 31 #[.bool u, .int .u16 k] r0 2 Try.underlying31 rfl size31 rfl ?_)
    | (have hh := hfi; clear hh; go_at_call 56; refine Calls.mono hfi ?_; clear hfi; rintro e W1 ⟨he, hb⟩; obtain rfl := he; have cW := cW.below hb; have ab := ab.trans (hb.mono ab.size); clear hb; ))
  rw [HPP.out]
  exact ⟨by rw [HB2.out] <;> rfl, ab⟩
def pinsC (s : Cs) (u : Bool) (k : Int) : Int := match posF s.fs u k with | some i => ((s.ck[i]?).map Cl.Fr.pins).getD 0 | none => 0
theorem cpins_any {w : World} {gc gd gl gk ak : Nat} {fv : Value} {m n : Nat} {s : Cs} {M : Int} (c : CA w gc gd gl gk ak fv m n s M) (ok : s.Ok) (u : Bool) (k : Int) (hk : WfU k) : Calls Try.prog 22 #[.pointer (some ⟨gc, 0, none⟩), idv u k] w fun e w' => e = .returned (.int .i64 (pinsC s u k)) ∧ Below w.heap.size w w' := by
  obtain ⟨PP, HPP⟩ : ∃ PP : Ending → World → Prop, Hid (PP = fun e w' => e = .returned (.int .i64 (pinsC s u k)) ∧ Below w.heap.size w w') := ⟨_, rfl⟩
  rw [← HPP.out]
  have r0 : Row (w.alloc (.cells #[.bool u, .int .u16 k] 31)) w.heap.size #[.bool u, .int .u16 k] 31 := Row.new _ _ _
  have ab : Below w.heap.size w (w.alloc (.cells #[.bool u, .int .u16 k] 31)) := (Below.refl _ _).alloc (Nat.le_refl _) _
  have cW := c.below ab
  have hfi := find_any cW u k hk
  unfold idv at hfi ⊢
  cases hp : posF s.fs u k with
  | none =>
    rw [where_none hp] at hfi
    simp only [Option.getD_none, Option.isSome_none] at hfi
    have HF : Hid (pinsC s u k = 0) := by show pinsC s u k = 0; unfold pinsC; rw [hp]
    clear hp
    go_enter Try.func22, Try.ntmps22
    go_upto_region 1 with fail
    generalize w.alloc (.cells #[.bool u, .int .u16 k] 31) = W at r0 ab cW hfi ⊢
    obtain ⟨A0, HA0⟩ : ∃ A0, Hid (w.heap.size = A0) := ⟨_, rfl⟩
    rw [HA0.out] at r0 ⊢
    have tl : Hid (1 = 1) := rfl
    go_wp2_with (first
      | (have hh := tl; clear hh tl; refine load_cells rfl 31 (.tmp 3) rfl A0 rfl 31 #[.bool u, .int .u16 k] r0 2 Try.underlying31 rfl size31 rfl ?_)
      | (have hh := hfi; clear hh; go_at_call 56; refine Calls.mono hfi ?_; clear hfi; rintro e W1 ⟨he, hb⟩; obtain rfl := he; have cW := cW.below hb; have ab := ab.trans (hb.mono ab.size); clear hb; ))
    rw [HPP.out]
    exact ⟨by rw [HF.out] <;> rfl, ab⟩
  | some i =>
    rw [where_some hp] at hfi
    simp only [Option.getD_some, Option.isSome_some] at hfi
    have hil := posF_lt hp
    obtain ⟨x, hx⟩ : ∃ x, s.ck[i]? = some x := ⟨_, List.getElem?_eq_getElem (by rw [ok.ck]; exact Nat.lt_of_lt_of_le hil ok.few)⟩
    have HF : Hid (pinsC s u k = x.pins) := by show pinsC s u k = x.pins; unfold pinsC; rw [hp]; simp [hx]
    have HPI : Hid (∀ W, CA W gc gd gl gk ak fv m n s M → Calls Try.prog 58 #[.pointer (some ⟨gk, 0, none⟩), .int .i64 i] W fun e w' => e = .returned (.int .i64 x.pins) ∧ w' = W) := fun W h => Cl.pins_in h.clk i x hx
    clear hp hil hx
    go_enter Try.func22, Try.ntmps22
    go_upto_region 1 with fail
    generalize w.alloc (.cells #[.bool u, .int .u16 k] 31) = W at r0 ab cW hfi ⊢
    obtain ⟨A0, HA0⟩ : ∃ A0, Hid (w.heap.size = A0) := ⟨_, rfl⟩
    rw [HA0.out] at r0 ⊢
    have tl : Hid (1 = 1) := rfl
    go_wp2_with (first
      | (have hh := tl; clear hh tl; refine load_cells rfl 31 (.tmp 3) rfl A0 rfl 31 #[.bool u, .int .u16 k] r0 2 Try.underlying31 rfl size31 rfl ?_)
      | (have hh := hfi; clear hh; go_at_call 56; refine Calls.mono hfi ?_; clear hfi; rintro e W1 ⟨he, hb⟩; obtain rfl := he; have cW := cW.below hb; have ab := ab.trans (hb.mono ab.size); clear hb; have c2 : W1.cell? ⟨gc, 2, none⟩ = some (.pointer (some ⟨gk, 0, none⟩)) := row_at cW.row 2 _ rfl; have hpi := HPI.out W1 cW)
      | (have hh := hpi; clear hh; go_at_call 58; refine Calls.mono hpi ?_; clear hpi; rintro e W2 ⟨he, hww⟩; rw [hww]; clear hww W2; obtain rfl := he))
    rw [HPP.out]
    exact ⟨by rw [HF.out] <;> rfl, ab⟩
def cleanC (s : Cs) (u : Bool) (k : Int) : Bool := match posF s.fs u k with | some i => !((s.fs[i]?).map Fm.dirty).getD false | none => true
set_option maxHeartbeats 1000000 in
theorem clean_any {w : World} {gc gd gl gk ak : Nat} {fv : Value} {m n : Nat} {s : Cs} {M : Int} (c : CA w gc gd gl gk ak fv m n s M) (ok : s.Ok) (u : Bool) (k : Int) (hk : WfU k) : Calls Try.prog 26 #[.pointer (some ⟨gc, 0, none⟩), idv u k] w fun e w' => e = .returned (.bool (cleanC s u k)) ∧ Below w.heap.size w w' := by
  obtain ⟨PP, HPP⟩ : ∃ PP : Ending → World → Prop, Hid (PP = fun e w' => e = .returned (.bool (cleanC s u k)) ∧ Below w.heap.size w w') := ⟨_, rfl⟩
  rw [← HPP.out]
  have r0 : Row (w.alloc (.cells #[.bool u, .int .u16 k] 31)) w.heap.size #[.bool u, .int .u16 k] 31 := Row.new _ _ _
  have ab : Below w.heap.size w (w.alloc (.cells #[.bool u, .int .u16 k] 31)) := (Below.refl _ _).alloc (Nat.le_refl _) _
  have cW := c.below ab
  have hfi := find_any cW u k hk
  unfold idv at hfi ⊢
  cases hp : posF s.fs u k with
  | none =>
    rw [where_none hp] at hfi
    simp only [Option.getD_none, Option.isSome_none] at hfi
    have HF : Hid (cleanC s u k = true) := by show cleanC s u k = true; unfold cleanC; rw [hp]
    clear hp
    go_enter Try.func26, Try.ntmps26
    go_upto_region 1 with fail
    generalize w.alloc (.cells #[.bool u, .int .u16 k] 31) = W at r0 ab cW hfi ⊢
    obtain ⟨A0, HA0⟩ : ∃ A0, Hid (w.heap.size = A0) := ⟨_, rfl⟩
    rw [HA0.out] at r0 ⊢
    have tl : Hid (1 = 1) := rfl
    go_wp2_with (first
      | (have hh := tl; clear hh tl; refine load_cells rfl 31 (.tmp 3) rfl A0 rfl 31 #[.bool u, .int .u16 k] r0 2 Try.underlying31 rfl size31 rfl ?_)
      | (have hh := hfi; clear hh; go_at_call 56; refine Calls.mono hfi ?_; clear hfi; rintro e W1 ⟨he, hb⟩; obtain rfl := he; have cW := cW.below hb; have ab := ab.trans (hb.mono ab.size); clear hb; ))
    rw [HPP.out]
    exact ⟨by rw [HF.out] <;> rfl, ab⟩
  | some i =>
    rw [where_some hp] at hfi
    simp only [Option.getD_some, Option.isSome_some] at hfi
    have hil := posF_lt hp
    obtain ⟨f, hf, _⟩ := posF_some hp
    have HF : Hid (cleanC s u k = (!f.dirty)) := by show cleanC s u k = (!f.dirty); unfold cleanC; rw [hp]; simp [hf]
    obtain ⟨bb, HBB⟩ : ∃ bb, Hid (f.dirty = bb) := ⟨_, rfl⟩
    rw [HBB.out] at HF
    obtain ⟨oa, cap, rfl, hcap, hel⟩ := c.form ok.fs
    obtain ⟨a, rfl, hcell⟩ := hel i f hf
    have hc0 := hcell 227 (.bool bb) (by rw [f.cells_pre, List.getElem?_append_right (by rw [Fm.pre_length (ok.fs f (List.mem_of_getElem? hf)).len]; omega), Fm.pre_length (ok.fs f (List.mem_of_getElem? hf)).len]; rw [← HBB.out]; rfl)
    have HCE : Hid (∀ W, Below w.heap.size w W → W.cell? ⟨a, i * 229 + 227, none⟩ = some (.bool bb)) := fun W hb => cell_keep hc0 hb
    have HLEN : Hid (s.fs.length ≤ 32) := by show _ ≤ _; have := ok.few; have := ok.most.2; omega
    have hil2 : (i : Int) < (s.fs.length : Int) := by omega
    clear hp hf hel hcell hc0 hil
    go_enter Try.func26, Try.ntmps26
    go_upto_region 1 with fail
    generalize w.alloc (.cells #[.bool u, .int .u16 k] 31) = W at r0 ab cW hfi ⊢
    obtain ⟨A0, HA0⟩ : ∃ A0, Hid (w.heap.size = A0) := ⟨_, rfl⟩
    rw [HA0.out] at r0 ⊢
    have tl : Hid (1 = 1) := rfl
    cases bb with
    | true =>
      go_wp2_with (first
        | (have hh := tl; clear hh tl; refine load_cells rfl 31 (.tmp 3) rfl A0 rfl 31 #[.bool u, .int .u16 k] r0 2 Try.underlying31 rfl size31 rfl ?_)
        | (have hh := hfi; clear hh; go_at_call 56; refine Calls.mono hfi ?_; clear hfi; rintro e W1 ⟨he, hb⟩; obtain rfl := he; have cW := cW.below hb; have ab := ab.trans (hb.mono ab.size); clear hb; have c6 : W1.cell? ⟨gc, 6, none⟩ = some (.slice (some ⟨a, 0, none⟩) s.fs.length cap) := row_at cW.row 6 _ rfl; have hce := HCE.out W1 ab))
      rw [HPP.out]
      exact ⟨by rw [HF.out] <;> rfl, ab⟩
    | false =>
      go_wp2_with (first
        | (have hh := tl; clear hh tl; refine load_cells rfl 31 (.tmp 3) rfl A0 rfl 31 #[.bool u, .int .u16 k] r0 2 Try.underlying31 rfl size31 rfl ?_)
        | (have hh := hfi; clear hh; go_at_call 56; refine Calls.mono hfi ?_; clear hfi; rintro e W1 ⟨he, hb⟩; obtain rfl := he; have cW := cW.below hb; have ab := ab.trans (hb.mono ab.size); clear hb; have c6 : W1.cell? ⟨gc, 6, none⟩ = some (.slice (some ⟨a, 0, none⟩) s.fs.length cap) := row_at cW.row 6 _ rfl; have hce := HCE.out W1 ab))
      rw [HPP.out]
      exact ⟨by rw [HF.out] <;> rfl, ab⟩
theorem LStep.turned {w wr w' : World} {gl gd : Nat} {F : Nat → Prop} {l : Lg} {d d' : Dsk} {M N : Nat} {vl vs : Value} {L L' : Loc} (h1 : LD wr gl gd vl vs L l d M) (h2 : Off F w wr) (h3 : ∀ j, lfoot gl gd vl vs L j → F j ∨ w.heap.size ≤ j)
    (k1 : DAt w' gd d' L' N) (k2 : Off (foot gd L) wr w') (k3 : ∀ j, foot gd L' j → foot gd L j ∨ wr.heap.size ≤ j) : LStep w gl gd F l d' N w' := by
  refine ⟨vl, vs, L', ⟨h1.row.off k2 h1.ng, h1.last.off k2 h1.nl, h1.sld.off k2 h1.ns, k1, fun q => ?_, fun j q q2 => ?_, fun j q q2 => ?_⟩, h2.trans k2 (fun j q => h3 _ (Or.inr (Or.inr (Or.inr q)))), fun j q => ?_⟩
  · rcases k3 gl q with q | q
    · exact h1.ng q
    · have := h1.row.lt; omega
  · rcases k3 j q2 with q3 | q3
    · exact h1.nl j q q3
    · have := (World.ownsRow.lt h1.last j q).2; omega
  · rcases k3 j q2 with q3 | q3
    · exact h1.ns j q q3
    · have := (World.ownsRow.lt h1.sld j q).2; omega
  · rcases q with q | q | q | q
    · exact h3 j (Or.inl q)
    · exact h3 j (Or.inr (Or.inl q))
    · exact h3 j (Or.inr (Or.inr (Or.inl q)))
    · rcases k3 j q with q3 | q3
      · exact h3 j (Or.inr (Or.inr (Or.inr q3)))
      · have := h2.size; exact Or.inr (by omega)
theorem LStep.read {w wr : World} {gl gd : Nat} {F : Nat → Prop} {l : Lg} {d : Dsk} {M : Nat} (h : LStep w gl gd F l d M wr) (ho : d.ops < 9223372036854775806) (b : Int) :
    Calls Try.prog 77 #[.pointer (some ⟨gd, 0, none⟩), .int .i64 b] wr fun e w' => e = .returned (.tuple #[.agg (bs (read d b).1), .int .i64 (read d b).2.1]) ∧ LStep w gl gd F l (read d b).2.2 M w' := by
  obtain ⟨vl, vs, L, h1, h2, h3⟩ := h
  refine (read_any h1.dsk ho b).mono ?_
  rintro e w' ⟨q1, k1, k2⟩
  exact ⟨q1, LStep.turned h1 h2 h3 k1 k2 (fun j q => Or.inl q)⟩
theorem LStep.sync {w wr : World} {gl gd : Nat} {F : Nat → Prop} {l : Lg} {d : Dsk} {M : Nat} (h : LStep w gl gd F l d M wr) (ho : d.ops < 9223372036854775806) :
    Calls Try.prog 89 #[.pointer (some ⟨gd, 0, none⟩)] wr fun e w' => e = .returned (.int .i64 (sync d).1) ∧ LStep w gl gd F l (sync d).2 M w' := by
  obtain ⟨vl, vs, L, h1, h2, h3⟩ := h
  refine (sync_any h1.dsk ho).mono ?_
  rintro e w' ⟨q1, L', k1, k2, k3⟩
  exact ⟨q1, LStep.turned h1 h2 h3 k1 k2 k3⟩
theorem LStep.write {w wr : World} {gl gd : Nat} {F : Nat → Prop} {l : Lg} {d : Dsk} {M : Nat} (h : LStep w gl gd F l d M wr) (ho : d.ops < 9223372036854775806) (b : Int) (x : List Int) (hx : x.length = 256) (xb : Bytes x) (hN : M + 4 < 1000000000000) :
    Calls Try.prog 30 #[.pointer (some ⟨gd, 0, none⟩), .int .i64 b, .agg (bs x)] wr fun e w' => e = .returned (.int .i64 (writ d b x).1) ∧ LStep w gl gd F l (writ d b x).2 (M + 4) w' := by
  obtain ⟨vl, vs, L, h1, h2, h3⟩ := h
  refine (write_any h1.dsk ho b x hx xb hN).mono ?_
  rintro e w' ⟨q1, L', k1, k2, k3⟩
  exact ⟨q1, LStep.turned h1 h2 h3 k1 k2 k3⟩
theorem LStep.off {w wr : World} {gl gd : Nat} {F : Nat → Prop} {l : Lg} {d : Dsk} {M : Nat} (h : LStep w gl gd F l d M wr) : Off F w wr := by
  obtain ⟨vl, vs, L, h1, h2, h3⟩ := h
  exact h2
theorem LStep.size {w wr : World} {gl gd : Nat} {F : Nat → Prop} {l : Lg} {d : Dsk} {M : Nat} (h : LStep w gl gd F l d M wr) : Calls Try.prog 62 #[.pointer (some ⟨gd, 0, none⟩)] wr fun e w' => e = .returned (.int .i64 d.n) ∧ w' = wr := by
  obtain ⟨vl, vs, L, h1, h2, h3⟩ := h
  exact size_any h1.dsk
theorem LStep.plan {w wr : World} {gl gd : Nat} {F : Nat → Prop} {l : Lg} {d : Dsk} {M : Nat} (h : LStep w gl gd F l d M wr) (k : Value) (zl : List Int) (hc : Cel wr k (zl.map (.int .i64))) (hne : ∀ a n c, k = .slice (some a) n c → a.block ≠ gd) (zw : ∀ z ∈ zl, Wf z) (hl : zl.length * 8 ≤ 140737488355328) :
    Calls Try.prog 24 #[.pointer (some ⟨gd, 0, none⟩), k, .int .i64 0] wr fun e w' => e = .returned (.tuple #[]) ∧ LStep w gl gd F l (d.plan zl 0) M w' := by
  obtain ⟨vl, vs, L, h1, h2, h3⟩ := h
  refine (plan_any h1.dsk k zl hc hne zw hl 0 (wf_of (by decide) (by decide))).mono ?_
  rintro e w' ⟨rfl, m, hm, k1, k2⟩
  have hg : foot gd L gd := Or.inl rfl
  have hnew : ∀ j, foot gd (L.plan m) j → foot gd L j ∨ j = m := fun j q => by
    rcases q with q | q | q | q | q
    · exact Or.inl (Or.inl q)
    · exact Or.inl (Or.inr (Or.inl q))
    · exact Or.inl (Or.inr (Or.inr (Or.inl q)))
    · exact Or.inl (Or.inr (Or.inr (Or.inr (Or.inl q))))
    · have q' : (Value.map (some m)) = .map (some j) := q
      cases q'; exact Or.inr rfl
  refine ⟨rfl, vl, vs, L.plan m, ⟨h1.row.off k2 (fun q => by subst q; exact h1.ng hg), h1.last.off k2 (fun j q q2 => by subst q2; exact h1.nl _ q hg), h1.sld.off k2 (fun j q q2 => by subst q2; exact h1.ns _ q hg), k1, fun q => ?_, fun j q q2 => ?_, fun j q q2 => ?_⟩, h2.trans k2 (fun j q => by subst q; exact h3 _ (Or.inr (Or.inr (Or.inr hg)))), fun j q => ?_⟩
  · rcases hnew gl q with q | q
    · exact h1.ng q
    · have := h1.row.lt; omega
  · rcases hnew j q2 with q3 | q3
    · exact h1.nl j q q3
    · have := (World.ownsRow.lt h1.last j q).2; omega
  · rcases hnew j q2 with q3 | q3
    · exact h1.ns j q q3
    · have := (World.ownsRow.lt h1.sld j q).2; omega
  · rcases q with q | q | q | q
    · exact h3 j (Or.inl q)
    · exact h3 j (Or.inr (Or.inl q))
    · exact h3 j (Or.inr (Or.inr (Or.inl q)))
    · rcases hnew j q with q3 | q3
      · exact h3 j (Or.inr (Or.inr (Or.inr q3)))
      · have := h2.size; exact Or.inr (by omega)
theorem LStep.crash {w wr : World} {gl gd : Nat} {F : Nat → Prop} {l : Lg} {d : Dsk} {M : Nat} (h : LStep w gl gd F l d M wr) : Calls Try.prog 27 #[.pointer (some ⟨gd, 0, none⟩), .slice none 0 0] wr fun e w' => e = .returned (.tuple #[]) ∧ LStep w gl gd F l (d.crash []) M w' := by
  obtain ⟨vl, vs, L, h1, h2, h3⟩ := h
  refine (crash_any h1.dsk (.slice none 0 0) [] (Or.inl ⟨rfl, rfl⟩) (fun a n c q => by cases q)).mono ?_
  rintro e w' ⟨rfl, L2, k1, k2, k3⟩
  refine ⟨rfl, vl, vs, L2, ⟨h1.row.off k2 h1.ng, h1.last.off k2 h1.nl, h1.sld.off k2 h1.ns, k1, fun q => ?_, fun j q q2 => ?_, fun j q q2 => ?_⟩, h2.trans k2 (fun j q => h3 j (Or.inr (Or.inr (Or.inr q)))), fun j q => ?_⟩
  · rcases k3 gl q with q | q
    · exact h1.ng q
    · have := h1.row.lt; omega
  · rcases k3 j q2 with q3 | q3
    · exact h1.nl j q q3
    · have := (World.ownsRow.lt h1.last j q).2; omega
  · rcases k3 j q2 with q3 | q3
    · exact h1.ns j q q3
    · have := (World.ownsRow.lt h1.sld j q).2; omega
  · rcases q with q | q | q | q
    · exact h3 j (Or.inl q)
    · exact h3 j (Or.inr (Or.inl q))
    · exact h3 j (Or.inr (Or.inr (Or.inl q)))
    · rcases k3 j q with q3 | q3
      · exact h3 j (Or.inr (Or.inr (Or.inr q3)))
      · have := h2.size; exact Or.inr (by omega)
structure O where
  live : Bool
  page : Int
  ts : Int
  np : Int
  ns : Int
  delta : ByteArray
def O.zero : O := ⟨false, 0, 0, 0, 0, ByteArray.empty⟩
def O.cells (o : O) : List Value := [.bool o.live, .int .u16 o.page, .int .u32 o.ts, .int .u16 o.np, .int .u8 o.ns, .string o.delta]
def O.arr (o : O) : Array Value := #[.bool o.live, .int .u16 o.page, .int .u32 o.ts, .int .u16 o.np, .int .u8 o.ns, .string o.delta]
theorem O.cells_length (o : O) : o.cells.length = 6 := rfl
def flat (os : List O) : List Value := os.flatMap O.cells
theorem flat_length : ∀ os : List O, (flat os).length = os.length * 6
  | [] => rfl
  | o :: r => by
    have := flat_length r
    show (o.cells ++ flat r).length = _
    rw [List.length_append, this, O.cells_length]; simp; omega
theorem flat_at : ∀ (os : List O) (i j : Nat) (o : O), os[i]? = some o → j < 6 → (flat os)[i * 6 + j]? = o.cells[j]?
  | [], i, j, o, h, _ => by simp at h
  | p :: r, 0, j, o, h, hj => by
    simp at h; subst h
    show (p.cells ++ flat r)[0 * 6 + j]? = _
    rw [Nat.zero_mul, Nat.zero_add, List.getElem?_append_left (by rw [O.cells_length]; exact hj)]
  | p :: r, i + 1, j, o, h, hj => by
    simp at h
    show (p.cells ++ flat r)[(i + 1) * 6 + j]? = _
    rw [List.getElem?_append_right (by rw [O.cells_length]; omega), O.cells_length, show (i + 1) * 6 + j - 6 = i * 6 + j by omega]
    exact flat_at r i j o h hj
theorem flat_one : ∀ os : List O, ∀ u ∈ flat os, u.oneCell' = true := by
  intro os u hu
  obtain ⟨o, _, h⟩ := List.mem_flatMap.1 hu
  simp [O.cells] at h
  rcases h with rfl | rfl | rfl | rfl | rfl | rfl <;> rfl
theorem flat_append (a b : List O) : flat (a ++ b) = flat a ++ flat b := by simp [flat]
def Olds (w : World) (v : Value) (os : List O) : Prop :=
  (v = .slice none 0 0 ∧ os = []) ∨ ∃ a cap, v = .slice (some a) os.length cap ∧ ∀ j u, (flat os)[j]? = some u → w.cell? (a.add j) = some u
theorem Olds.keep {w w' : World} {v : Value} {os : List O} (h : Olds w v os) (hb : Below w.heap.size w w') : Olds w' v os := by
  rcases h with h | ⟨a, cap, rfl, h⟩
  · exact Or.inl h
  · exact Or.inr ⟨a, cap, rfl, fun j u hj => cell_keep (h j u hj) hb⟩
theorem add_add (a : Addr) (m j : Nat) : (a.add m).add j = a.add (m + j) := by
  unfold Addr.add
  by_cases h1 : m = 0
  · subst h1; simp
  · by_cases h2 : j = 0
    · subst h2; simp [h1]
    · rw [if_neg h2, if_neg h1, if_neg (by omega)]; simp; omega
theorem Olds.open {w : World} {v : Value} {os : List O} (h : Olds w v os) : ∃ oa cap, v = .slice oa os.length cap ∧ ∀ i, i < os.length → ∃ (a : Addr) (o : O), oa = some a ∧ os[i]? = some o ∧ ∀ j u, o.cells[j]? = some u → w.cell? ((a.add (i * 6)).add j) = some u := by
  rcases h with ⟨rfl, rfl⟩ | ⟨a, cap, rfl, h⟩
  · exact ⟨none, 0, rfl, fun i hi => absurd hi (by simp)⟩
  · refine ⟨some a, cap, rfl, fun i hi => ⟨a, os[i], rfl, by simp [hi], fun j u hj => ?_⟩⟩
    rw [add_add]
    have hj6 : j < 6 := by have := (List.getElem?_eq_some_iff.1 hj).1; simpa [O.cells] using this
    exact h _ u (by rw [flat_at os i j os[i] (by simp [hi]) hj6]; exact hj)
def Own (w : World) (base : Nat) (v : Value) (os : List O) : Prop := w.ownsRow base 130 6 v os.length (flat os)
theorem Own.olds {w : World} {base : Nat} {v : Value} {os : List O} (h : Own w base v os) : Olds w v os := by
  have hc := fun g hg => World.ownsRow.cells h (g := g) hg
  obtain ⟨h1, h2⟩ := h
  rcases h2 with ⟨rfl, h2⟩ | ⟨g, cap, cur, rfl, hb, hg, _⟩
  · exact Or.inl ⟨rfl, List.eq_nil_of_length_eq_zero h2⟩
  · exact Or.inr ⟨⟨g, 0, none⟩, cap, rfl, hc g rfl⟩
theorem Own.keep {w w' : World} {base : Nat} {v : Value} {os : List O} (h : Own w base v os) (hb : Below w.heap.size w w') : Own w' base v os := by
  have hl := World.ownsRow.lt h
  obtain ⟨h1, h2⟩ := h
  refine ⟨h1, ?_⟩
  rcases h2 with h2 | ⟨g, cap, cur, rfl, hb', hc, rest⟩
  · exact Or.inl h2
  · have := hl g (by simp [Value.ownBlock])
    exact Or.inr ⟨g, cap, cur, rfl, hb', (hb.block g this.2).trans hc, rest⟩
theorem info130 : (Try.prog.info? 130).map (fun i => (i.zero, i.size, i.bytes)) = some (some (.agg O.zero.arr), 6, 32) := by kernel_rfl
theorem info_parts {P : Program} {t : TypeId} {z : Option Value} {n b : Nat} (h : (P.info? t).map (fun i => (i.zero, i.size, i.bytes)) = some (z, n, b)) : ∃ i, P.info? t = some i ∧ i.zero = z ∧ i.size = n ∧ i.bytes = b := by
  obtain ⟨i, hi, e⟩ := Option.map_eq_some_iff.1 h
  simp only [Prod.mk.injEq] at e
  exact ⟨i, hi, e.1, e.2.1, e.2.2⟩
theorem size130 : (Try.prog.info? 130).map (·.size) = some 6 := by kernel_rfl
theorem size103 : (Try.prog.info? 103).map (·.size) = some 2 := by kernel_rfl
theorem zero130 (w : World) : (zeroValue 130).run Try.prog w = .ok (.agg #[.bool false, .int .u16 0, .int .u32 0, .int .u16 0, .int .u8 0, .string ByteArray.empty]) w := (zero_of_info (P := Try.prog) (t := 130) (v := .agg #[.bool false, .int .u16 0, .int .u32 0, .int .u16 0, .int .u8 0, .string ByteArray.empty]) (n := 6) (by kernel_rfl)).1 w
theorem zero103 (w : World) : (zeroValue 103).run Try.prog w = .ok (.agg #[.int .u64 0, .slice none 0 0]) w := (zero_of_info (P := Try.prog) (t := 103) (v := .agg #[.int .u64 0, .slice none 0 0]) (n := 2) (by kernel_rfl)).1 w
theorem built130 : (Try.prog.built 130 []) = some #[.bool false, .int .u16 0, .int .u32 0, .int .u16 0, .int .u8 0, .string ByteArray.empty] := by kernel_rfl
theorem built103 : (Try.prog.built 103 []) = some #[.int .u64 0, .slice none 0 0] := by kernel_rfl
instance : DecidableEq O := fun a b => by
  cases a; cases b
  simp only [O.mk.injEq]
  exact inferInstance
theorem equal130 (o p : O) (w : World) : (Op.equalIn 10000 130 (.agg o.arr) (.agg p.arr)).run Try.prog w = .ok (decide (o = p)) w := by
  cases o with | mk a b c d e s =>
  cases p with | mk a' b' c' d' e' s' =>
  unfold O.arr
  go_simp
  by_cases h1 : a = a'
  · by_cases h2 : b = b'
    · by_cases h3 : c = c'
      · by_cases h4 : d = d'
        · by_cases h5 : e = e'
          · by_cases h6 : s = s'
            · subst h1 h2 h3 h4 h5 h6; simp
            · have h7 : ¬ s.toList = s'.toList := fun q => h6 (bytes_inj q)
              simp [h1, h2, h3, h4, h5, h6, h7]
          · simp [h1, h2, h3, h4, h5]
        · simp [h1, h2, h3, h4]
      · simp [h1, h2, h3]
    · simp [h1, h2]
  · simp [h1]
def psize (os : List O) : Int := os.foldl (fun n o => n + if o.live then 11 + (o.delta.size : Int) else 1) 16
def okO (o : O) : Bool := (o.live || decide (o = O.zero)) && decide (o.delta.size ≤ 66)
def lastLive (os : List O) : Bool := match os.getLast? with | some o => o.live | none => true
def may (os : List O) : Bool := decide (os.length ≤ 15) && lastLive os && os.all okO && decide (psize os ≤ 224)
theorem wpList_load_any {P : Program} {ops : Array Oper} {rest : List Oper} {op : Oper} {a : Act} {w : World} {Q : Exit → Act → World → Prop} (hgd : op.guard = none) (ty : TypeId) (x : Operand) (ho : op.op = .load ty x)
    (p : Addr) (hx : a.eval x = .pointer (some p)) (cs : List Value) (d : TypeDesc) (hc : ∀ j v, cs[j]? = some v → w.cell? (p.add j) = some v)
    (hu : P.underlying ty = some d) (hd : d.isRow = true) (hi : (P.info? ty).map (·.size) = some cs.length)
    (h : wpList P ops Q rest (a.put op.dst (.agg cs.toArray)) w) : wpList P ops Q (op :: rest) a w := by
  refine wpList_plain hgd fun K hK => ?_
  have hl : (loadCells p cs.length).run P w = .ok cs.toArray w := run_loadCells_list (P := P) w p cs hc
  have hrun : (loadVar ty p).run P w = .ok (.agg cs.toArray) w := by
    cases hq : P.info? ty with
    | none => simp [hq] at hi
    | some i =>
      have hs : i.size = cs.length := by simpa [hq] using hi
      have hagg : (isAgg ty).run P w = .ok true w := by
        unfold isAgg
        rw [Sem.run_bind, run_underlying hu w]
        cases d <;> simp_all
      simp [loadVar, Sem.run_bind, hagg, sizeOf, typeInfo, hq, hs, hl]
  unfold Oper.wp execOp
  simp only [ho, hx, Instr.loadAt, Instr.sureAddr, Sem.run_bind, Sem.run_pure, Result.andThen_ok, hrun]
  exact hK _ _ h
theorem add_zero (a : Addr) : a.add 0 = a := by unfold Addr.add; split <;> simp_all
theorem take_fold (f : Int → O → Int) (z : Int) (os : List O) (k : Nat) (o : O) (h : os[k]? = some o) : (os.take (k + 1)).foldl f z = f ((os.take k).foldl f z) o := by
  rw [List.take_add_one, h]; simp [List.foldl_append]
theorem psize_succ (os : List O) (k : Nat) (o : O) (h : os[k]? = some o) : psize (os.take (k + 1)) = psize (os.take k) + if o.live then 11 + (o.delta.size : Int) else 1 := take_fold _ _ _ _ _ h
theorem size_le (os : List O) (B : Int) (hB : 1 ≤ B) (h : ∀ o ∈ os, 11 + (o.delta.size : Int) ≤ B) : ∀ k, k ≤ os.length → 16 ≤ psize (os.take k) ∧ psize (os.take k) ≤ 16 + k * B
  | 0, _ => by simp [psize]
  | k + 1, hk => by
    have ih := size_le os B hB h k (by omega)
    have e : os[k]? = some os[k] := by simp [show k < os.length by omega]
    have hm := h os[k] (List.getElem_mem _)
    rw [psize_succ _ _ _ e]
    have e2 : ((k + 1 : Nat) : Int) * B = k * B + B := by rw [show ((k + 1 : Nat) : Int) = (k : Int) + 1 by omega, Int.add_mul]; omega
    rw [e2]
    split <;> omega
theorem Olds.hold {w : World} {v : Value} {os : List O} (h : Olds w v os) : ∃ oa cap, v = .slice oa os.length cap ∧ ∀ i, i < os.length → ∃ (a : Addr) (l : Bool) (p t np ns : Int) (dl : ByteArray), oa = some a ∧ os[i]? = some ⟨l, p, t, np, ns, dl⟩ ∧ ∀ j u, [Value.bool l, .int .u16 p, .int .u32 t, .int .u16 np, .int .u8 ns, .string dl][j]? = some u → w.cell? ((a.add (i * 6)).add j) = some u := by
  obtain ⟨oa, cap, h1, h2⟩ := h.open
  refine ⟨oa, cap, h1, fun i hi => ?_⟩
  obtain ⟨a, ⟨l, p, t, np, ns, dl⟩, e1, e2, e3⟩ := h2 i hi
  exact ⟨a, l, p, t, np, ns, dl, e1, e2, e3⟩
set_option maxHeartbeats 1000000 in
theorem size_anyP (lsn : Int) (v : Value) (os : List O) (w : World) (ho : Olds w v os) (hn : os.length ≤ 1000) (hd : ∀ o ∈ os, o.delta.size ≤ 140737488355328) :
    Calls Try.prog 94 #[.agg #[.int .u64 lsn, v]] w fun e w' => e = .returned (.int .i64 (psize os)) ∧ Below w.heap.size w w' := by
  obtain ⟨oa, cap, rfl, hcs⟩ := ho.hold
  have HCS : Hid _ := hcs
  have HB : Hid _ := size_le os (11 + 140737488355328) (by omega) (fun o ho => by have := hd o ho; omega)
  have HD : Hid _ := hd
  clear hcs ho hd
  obtain ⟨n, HN⟩ : ∃ n, Hid (os.length = n) := ⟨_, rfl⟩
  rw [HN.out] at HCS hn HB ⊢
  have hz := zero130
  have ab : Below w.heap.size w (w.alloc (.cells #[.int .u64 lsn, .slice oa n cap] 103)) := (Below.refl _ _).alloc (Nat.le_refl _) _
  go_enter Try.func94, Try.ntmps94
  go_wp2
  go_loopw [3, 9] (fun c d wr => ∃ (k : Nat), c = .int .i64 (psize (os.take k)) ∧ d = .int .i64 k ∧ k ≤ n ∧ Below w.heap.size w wr) (fun _ d _ => n - (intOf d).toNat)
  case atStart => exact ⟨0, rfl, rfl, by omega, ab⟩
  case round =>
    clear ab
    obtain ⟨k, rfl, rfl, hk, rb⟩ := hrel
    by_cases hkn : k < n
    · have hkn' : (k : Int) < (n : Int) := by omega
      obtain ⟨a, l, p, t, np, ns, dl, rfl, he, hcell⟩ := HCS.out k hkn
      have hcw : ∀ j u, [Value.bool l, .int .u16 p, .int .u32 t, .int .u16 np, .int .u8 ns, .string dl][j]? = some u → wr.cell? ((a.add (k * 6)).add j) = some u := fun j u hj => cell_keep (hcell j u hj) rb
      have hs := psize_succ os k _ he
      have hb := HB.out k hk
      have hdl := HD.out _ (List.mem_of_getElem? he)
      have HM : Hid ((k : Int) * (11 + 140737488355328) ≤ 1000 * (11 + 140737488355328)) := Int.mul_le_mul_of_nonneg_right (by omega) (by omega)
      simp only at hs hdl
      obtain ⟨z, HZ⟩ : ∃ z, Hid (psize (os.take k) = z) := ⟨_, rfl⟩
      rw [HZ.out] at hs hb ⊢
      have hb1 := hb.1
      have hb2 : z ≤ 140737488355328 * 1001 := by have := HM.out; omega
      clear hb hcell
      have w1 : IntKind.i64.wrap (11 + (dl.size : Int)) = 11 + (dl.size : Int) := by rw [IntKind.wrap_i64]; omega
      have w2 : IntKind.i64.wrap (z + (11 + (dl.size : Int))) = z + (11 + (dl.size : Int)) := by rw [IntKind.wrap_i64]; omega
      have w3 : IntKind.i64.wrap (z + 1) = z + 1 := by rw [IntKind.wrap_i64]; omega
      have tl : Hid (1 = 1) := rfl
      cases l
      · go_wp2_with (have hh := tl; clear hh tl; refine wpList_load_any rfl 130 (.tmp 11) rfl (a.add (k * 6)) rfl [.bool false, .int .u16 p, .int .u32 t, .int .u16 np, .int .u8 ns, .string dl] _ hcw Try.underlying130 rfl size130 ?_)
        go_roundw
        case rel => exact ⟨k + 1, by rw [hs]; simp, by go_num, by omega, rb.alloc rb.size _⟩
        case measure => simp [intOf]; omega
      · go_wp2_with (have hh := tl; clear hh tl; refine wpList_load_any rfl 130 (.tmp 11) rfl (a.add (k * 6)) rfl [.bool true, .int .u16 p, .int .u32 t, .int .u16 np, .int .u8 ns, .string dl] _ hcw Try.underlying130 rfl size130 ?_)
        go_roundw
        case rel => exact ⟨k + 1, by rw [hs]; simp, by go_num, by omega, rb.alloc rb.size _⟩
        case measure => simp [intOf]; omega
    · obtain rfl : k = n := by omega
      have hkn' : ¬ (k : Int) < (k : Int) := by omega
      have ht : os.take k = os := by rw [← HN.out, List.take_length]
      rw [ht]
      go_wp2
      go_ret
      exact ⟨rfl, rb⟩
theorem okO_zero : okO O.zero = true := by
  unfold okO
  rw [decide_eq_true (p := O.zero = O.zero) rfl]
  rfl
theorem may_at {os : List O} {k : Nat} {o : O} (h : os[k]? = some o) (hk : okO o = false) : may os = false := by
  have : os.all okO = false := by
    rw [Bool.eq_false_iff]; intro q
    have := List.all_eq_true.1 q o (List.mem_of_getElem? h)
    rw [hk] at this; cases this
  unfold may; rw [this]; simp
theorem all_succ {os : List O} {k : Nat} {o : O} (h : os[k]? = some o) (h1 : (os.take k).all okO = true) (h2 : okO o = true) : (os.take (k + 1)).all okO = true := by
  rw [List.take_add_one, h, List.all_append, h1]; simp [h2]
theorem lastLive_succ {os : List O} {m : Nat} (hl : os.length = m + 1) {o : O} (h : os[m]? = some o) : lastLive os = o.live := by
  unfold lastLive
  rw [List.getLast?_eq_getElem?, hl, Nat.add_sub_cancel, h]
theorem may_small {os : List O} (h : may os = true) : os.length ≤ 15 ∧ lastLive os = true ∧ (∀ o ∈ os, okO o = true) ∧ psize os ≤ 224 := by
  unfold may at h
  simp only [Bool.and_eq_true, decide_eq_true_eq] at h
  exact ⟨h.1.1.1, h.1.1.2, fun o ho => List.all_eq_true.1 h.1.2 o ho, h.2⟩
set_option maxHeartbeats 2000000 in
theorem may_any (lsn : Int) (v : Value) (os : List O) (w : World) (ho : Olds w v os) :
    Calls Try.prog 71 #[.agg #[.int .u64 lsn, v]] w fun e w' => e = .returned (.bool (may os)) ∧ Below w.heap.size w w' := by
  have hsz := fun (wa : World) (hb : Below w.heap.size w wa) => size_anyP lsn v os wa (ho.keep hb)
  obtain ⟨oa, cap, rfl, hcs⟩ := ho.hold
  have HCS : Hid _ := hcs
  have HSZ : Hid _ := hsz
  clear hcs ho hsz
  obtain ⟨n, HN⟩ : ∃ n, Hid (os.length = n) := ⟨_, rfl⟩
  rw [HN.out] at HCS HSZ ⊢
  have hz := zero130
  have ab : Below w.heap.size w (w.alloc (.cells #[.int .u64 lsn, .slice oa n cap] 103)) := (Below.refl _ _).alloc (Nat.le_refl _) _
  have main : n ≤ 15 → lastLive os = true → ∀ (x : Value), x = .bool false → True := fun _ _ _ _ => trivial
  clear main
  by_cases h15 : n ≤ 15
  · have h15' : ¬ (n : Int) > 15 := by omega
    go_enter Try.func71, Try.ntmps71
    go_upto_region 2 with fail
    go_cut [24] from 6 to 49 (fun c wr => c = .bool (!lastLive os) ∧ wr = w.alloc (.cells #[.int .u64 lsn, .slice oa n cap] 103))
    case first =>
      cases n with
      | zero =>
        have hll : lastLive os = true := by
          have : os = [] := List.eq_nil_of_length_eq_zero HN.out
          rw [this]; rfl
        go_wp2
        go_meet
        exact ⟨by rw [hll]; rfl, rfl⟩
      | succ m =>
        have hm1 : (m : Int) + 1 > 0 := by omega
        have hm4 : ¬ (m : Int) + 1 > 15 := by omega
        clear h15'
        have hm2 : IntKind.i64.wrap ((m : Int) + 1 - 1) = m := by rw [IntKind.wrap_i64]; omega
        have hm3 : (m : Int) < (m : Int) + 1 := by omega
        obtain ⟨a, l, p, t, np, ns, dl, rfl, he, hcell⟩ := HCS.out m (by omega)
        have hcw := cell_keep (hcell 0 _ rfl) ab
        rw [add_zero] at hcw
        have HE := show Hid _ from he
        clear he hcell
        go_wp2
        go_meet
        exact ⟨by rw [lastLive_succ HN.out HE.out], rfl⟩
    case rest =>
      obtain ⟨rfl, rfl⟩ := hcut
      cases hll : lastLive os
      · have hm : may os = false := by unfold may; rw [hll]; simp
        simp only [Bool.not_false]
        go_wp2
        go_ret
        exact ⟨rfl, ab⟩
      · simp only [Bool.not_true]
        go_wp2
        go_loopw [28] (fun d wr => ∃ (k : Nat), d = .int .i64 k ∧ k ≤ n ∧ Hid ((os.take k).all okO = true) ∧ Below w.heap.size w wr ∧ Row wr w.heap.size #[.int .u64 lsn, .slice oa n cap] 103) (fun d _ => n - (intOf d).toNat)
        case atStart => exact ⟨0, rfl, by omega, rfl, ab, Row.new _ _ _⟩
        case round =>
          clear ab
          obtain ⟨k, rfl, hk, HO, rb, r0⟩ := hrel
          by_cases hkn : k < n
          · have hkn' : (k : Int) < (n : Int) := by omega
            obtain ⟨a, l, p, t, np, ns, dl, rfl, he, hcell⟩ := HCS.out k hkn
            have hcw : ∀ j u, [Value.bool l, .int .u16 p, .int .u32 t, .int .u16 np, .int .u8 ns, .string dl][j]? = some u → wr.cell? ((a.add (k * 6)).add j) = some u := fun j u hj => cell_keep (hcell j u hj) rb
            have heq : ∀ w, (Op.equalIn 10000 130 (.agg #[.bool l, .int .u16 p, .int .u32 t, .int .u16 np, .int .u8 ns, .string dl]) (.agg #[.bool false, .int .u16 0, .int .u32 0, .int .u16 0, .int .u8 0, .string ByteArray.empty])).run Try.prog w = .ok (decide ((⟨l, p, t, np, ns, dl⟩ : O) = O.zero)) w := fun w => equal130 ⟨l, p, t, np, ns, dl⟩ O.zero w
            have tl : Hid (1 = 1) := rfl
            have HE := show Hid _ from he
            clear he hcell
            cases l
            · by_cases hzo : (⟨false, p, t, np, ns, dl⟩ : O) = O.zero
              · have hok : okO (⟨false, p, t, np, ns, dl⟩ : O) = true := by rw [hzo]; exact okO_zero
                have HA := show Hid _ from all_succ HE.out HO.out hok
                have HOK := show Hid _ from hok
                rw [decide_eq_true hzo] at heq
                have hdl : (dl.size : Int) = 0 := by
                  have : dl = ByteArray.empty := congrArg O.delta hzo
                  rw [this]; rfl
                clear hzo hok
                go_wp2_with (first
                  | (have hh := tl; clear hh tl; refine wpList_load_any rfl 130 (.tmp 30) rfl (a.add (k * 6)) rfl [.bool false, .int .u16 p, .int .u32 t, .int .u16 np, .int .u8 ns, .string dl] _ hcw Try.underlying130 rfl size130 ?_)
                  | (refine build_none_g rfl 130 rfl _ built130 ?_))
                go_roundw
                case rel => exact ⟨k + 1, by go_num, by omega, HA.out, rb.alloc rb.size _, r0.alloc _⟩
                case measure => simp [intOf]; omega
              · have hok : okO (⟨false, p, t, np, ns, dl⟩ : O) = false := by unfold okO; rw [decide_eq_false hzo]; rfl
                have HM := show Hid _ from may_at HE.out hok
                rw [decide_eq_false hzo] at heq
                clear hzo hok
                go_wp2_with (first
                  | (have hh := tl; clear hh tl; refine wpList_load_any rfl 130 (.tmp 30) rfl (a.add (k * 6)) rfl [.bool false, .int .u16 p, .int .u32 t, .int .u16 np, .int .u8 ns, .string dl] _ hcw Try.underlying130 rfl size130 ?_)
                  | (refine build_none_g rfl 130 rfl _ built130 ?_))
                go_ret
                exact ⟨ret_bool HM.out.symm, rb.alloc rb.size _⟩
            · by_cases hd : dl.size ≤ 66
              · have hok : okO (⟨true, p, t, np, ns, dl⟩ : O) = true := by unfold okO; simp [hd]
                have HA := show Hid _ from all_succ HE.out HO.out hok
                have hdl : ¬ (dl.size : Int) > 66 := by omega
                clear hok heq
                go_wp2_with (have hh := tl; clear hh tl; refine wpList_load_any rfl 130 (.tmp 30) rfl (a.add (k * 6)) rfl [.bool true, .int .u16 p, .int .u32 t, .int .u16 np, .int .u8 ns, .string dl] _ hcw Try.underlying130 rfl size130 ?_)
                go_roundw
                case rel => exact ⟨k + 1, by go_num, by omega, HA.out, rb.alloc rb.size _, r0.alloc _⟩
                case measure => simp [intOf]; omega
              · have hok : okO (⟨true, p, t, np, ns, dl⟩ : O) = false := by unfold okO; simp; omega
                have HM := show Hid _ from may_at HE.out hok
                have hdl : (dl.size : Int) > 66 := by omega
                clear hok heq
                go_wp2_with (have hh := tl; clear hh tl; refine wpList_load_any rfl 130 (.tmp 30) rfl (a.add (k * 6)) rfl [.bool true, .int .u16 p, .int .u32 t, .int .u16 np, .int .u8 ns, .string dl] _ hcw Try.underlying130 rfl size130 ?_)
                go_ret
                exact ⟨ret_bool HM.out.symm, rb.alloc rb.size _⟩
          · obtain rfl : k = n := by omega
            have hkn' : ¬ (k : Int) < (k : Int) := by omega
            have ht : os.take k = os := by rw [← HN.out, List.take_length]
            have hall : os.all okO = true := by have := HO.out; rwa [ht] at this
            have hms : may os = decide (psize os ≤ 224) := by unfold may; rw [HN.out, hll, hall, decide_eq_true h15]; simp
            have hsz := HSZ.out wr rb (by omega) (fun o ho => by
              have := List.all_eq_true.1 hall o ho
              unfold okO at this
              simp at this
              omega)
            go_wp2_with (first
              | (refine wpList_load_mid rfl 103 (.tmp 1) rfl w.heap.size 0 rfl [.int .u64 lsn, .slice oa k cap] _ (range_two r0) Try.underlying103 rfl size103 ?_)
              | (go_at_call 94; refine hsz.mono ?_; rintro e w2 ⟨rfl, b2⟩))
            go_ret
            exact ⟨ret_bool hms.symm, rb.trans (b2.mono rb.size)⟩
  · have hm : may os = false := by unfold may; rw [HN.out, decide_eq_false h15]; simp
    have h15' : (n : Int) > 15 := by omega
    rw [hm]
    go_enter Try.func71, Try.ntmps71
    go_wp2
    go_ret
    exact ⟨rfl, ab⟩
theorem Own.alloc {w : World} {base : Nat} {v : Value} {os : List O} (h : Own w base v os) (o : Obj) : Own (w.alloc o) base v os := h.keep ((Below.refl _ _).alloc (Nat.le_refl _) _)
theorem Own.form {w : World} {base : Nat} {v : Value} {os : List O} (h : Own w base v os) : ∃ oa cap, v = .slice oa os.length cap := by
  rcases h.2 with ⟨rfl, h2⟩ | ⟨g, cap, cur, rfl, _⟩
  · exact ⟨none, 0, by rw [h2]⟩
  · exact ⟨_, cap, rfl⟩
theorem Own.setRow {w : World} {base : Nat} {v : Value} {os : List O} (h : Own w base v os) (j : Nat) (hj : j < base) (cs : Array Value) : Own (w.setRow j cs) base v os := by
  have hl := World.ownsRow.lt h
  obtain ⟨h1, h2⟩ := h
  refine ⟨h1, ?_⟩
  rcases h2 with h2 | ⟨g, cap, cur, rfl, hb', hc, rest⟩
  · exact Or.inl h2
  · exact Or.inr ⟨g, cap, cur, rfl, hb', by rw [setRow_other w j g cs (by omega)]; exact hc, rest⟩
end Go.Proofs.Ytehogiondcpbcaa
