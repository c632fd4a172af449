/-
  Proved here: cache.New; a disk, a log and a cache made. Proved here: filled: a page in which something of a number stands. Plain facts: a walk's own blocks beside a cache; the fixed run's states.
-/
import Derived.Test.YtehogiondcpbcaaJq31
import Derived.Test.YtehogiondcpbcaaJq11
import Derived.Test.YtehogiondcpbcaaJq04
import Derived.Test.YtehogiondcpbcaaJq27
import Derived.Test.YtehogiondcpbcaaJq25
import Derived.Test.YtehogiondcpbcaaJq17
namespace Go.Proofs.Ytehogiondcpbcaa
open Go.ChangeShapes Go.WideShapes Go.ChangeAt Go.RowKit
set_option linter.unusedVariables false
set_option linter.unusedSimpArgs false
set_option maxRecDepth 20000
def newC (pages undo most : Nat) : Cs := ⟨pages, undo, most, [], Cl.newF most, 0⟩
theorem newC_ok {pages undo most : Nat} (h1 : 1 ≤ pages ∧ pages ≤ 16) (h2 : 1 ≤ undo ∧ undo ≤ 32) (h3 : 4 ≤ most ∧ most ≤ 32) : (newC pages undo most).Ok :=
  by
  refine ⟨h1, h2, h3, (fun f hf => nomatch hf), Nat.zero_le _, fun i j f g h => ?_, Cl.newF_length _, (fun f hf => nomatch hf)⟩
  have h' : ([] : List Fm)[i]? = some f := h
  simp at h'
theorem built117 (gd gl gk m : Nat) (pages undo most : Int) : Try.prog.built 117 [(0, .pointer (some ⟨gd, 0, none⟩)), (1, .iface 24 (.pointer (some ⟨gl, 0, none⟩))), (2, .pointer (some ⟨gk, 0, none⟩)), (3, .int .i64 pages), (4, .int .i64 undo), (5, .int .i64 most), (7, .map (some m))] = some #[.pointer (some ⟨gd, 0, none⟩), .iface 24 (.pointer (some ⟨gl, 0, none⟩)), .pointer (some ⟨gk, 0, none⟩), .int .i64 pages, .int .i64 undo, .int .i64 most, .slice none 0 0, .map (some m)] := by kernel_rfl
def NewQ (w : World) (gd gl : Nat) (F : Nat → Prop) (pages undo most : Nat) (l : Lg) (d : Dsk) (N : Nat) (e : Ending) (w' : World) : Prop :=
  ∃ gc gk ak, e = .returned (.pointer (some ⟨gc, 0, none⟩)) ∧ Below w.heap.size w w' ∧ w.heap.size ≤ gc ∧ ∃ F', CL w' F' gc gd gl gk ak (newC pages undo most) l d 0 N ∧ ∀ j, F' j → F j ∨ w.heap.size ≤ j
set_option maxHeartbeats 2000000 in
theorem cnew_some {w : World} {gd gl : Nat} {F : Nat → Prop} {l : Lg} {d : Dsk} {N : Nat} {vl vs : Value} {L : Loc} (lD : LD w gl gd vl vs L l d N) (hF : ∀ j, lfoot gl gd vl vs L j → F j) (pages undo most : Nat) (h1 : 1 ≤ pages ∧ pages ≤ 16) (h2 : 1 ≤ undo ∧ undo ≤ 32) (h3 : 4 ≤ most ∧ most ≤ 32) (hn : 2 + pages + undo ≤ d.n) :
    Calls Try.prog 28 #[.pointer (some ⟨gd, 0, none⟩), .pointer (some ⟨gl, 0, none⟩), .int .i64 most, .int .i64 pages, .int .i64 undo] w fun e w' => NewQ w gd gl F pages undo most l d N e w' := by
  obtain ⟨PP, HPP⟩ : ∃ PP : Ending → World → Prop, Hid (PP = fun e w' => NewQ w gd gl F pages undo most l d N e w') := ⟨_, rfl⟩
  rw [← HPP.out]
  have HPO : Hid (∀ gc gk ak W, Below w.heap.size w W → w.heap.size ≤ gc → (∃ F', CL W F' gc gd gl gk ak (newC pages undo most) l d 0 N ∧ ∀ j, F' j → F j ∨ w.heap.size ≤ j) → PP (.returned (.pointer (some ⟨gc, 0, none⟩))) W) := by
    rw [HPP.out]
    exact fun gc gk ak W a b c => ⟨gc, gk, ak, rfl, a, b, c⟩
  clear HPP
  have a1 := cwithin_any (most : Int) 4 32 w
  rw [decide_eq_true (by omega)] at a1
  have a2 := cwithin_any (pages : Int) 1 16 w
  rw [decide_eq_true (by omega)] at a2
  have a3 := cwithin_any (undo : Int) 1 32 w
  rw [decide_eq_true (by omega)] at a3
  have a4 := size_any lD.dsk
  have a5 := Cl.new_some most (by omega) (by omega) w
  have HLD : Hid (LD w gl gd vl vs L l d N) := lD
  have HFF : Hid (∀ j, lfoot gl gd vl vs L j → F j) := hF
  have HOKC : Hid ((newC pages undo most).Ok) := newC_ok h1 h2 h3
  have hw1 : IntKind.i64.wrap (2 + (pages : Int)) = 2 + (pages : Int) := by rw [IntKind.wrap_i64]; omega
  have hw2 : IntKind.i64.wrap (2 + (pages : Int) + (undo : Int)) = 2 + (pages : Int) + (undo : Int) := by rw [IntKind.wrap_i64]; omega
  have hlt : decide ((d.n : Int) < 2 + (pages : Int) + (undo : Int)) = false := decide_eq_false (by omega)
  have hlt2 : ¬ ((d.n : Int) < 2 + (pages : Int) + (undo : Int)) := by omega
  have hmm := @run_makeMap Try.prog
  clear lD hF h1 h2 h3 hn
  have tb : Hid (1 = 1) := rfl
  go_enter Try.func28, Try.ntmps28
  go_wp2_with (first
    | (have hh := a1; clear hh; go_at_call 61; refine Calls.mono a1 ?_; clear a1; rintro e Wq ⟨he, hww⟩; rw [hww]; clear hww Wq; obtain rfl := he)
    | (have hh := a2; clear hh; go_at_call 61; refine Calls.mono a2 ?_; clear a2; rintro e Wq ⟨he, hww⟩; rw [hww]; clear hww Wq; obtain rfl := he)
    | (have hh := a3; clear hh; go_at_call 61; refine Calls.mono a3 ?_; clear a3; rintro e Wq ⟨he, hww⟩; rw [hww]; clear hww Wq; obtain rfl := he)
    | (have hh := a4; clear hh; go_at_call 62; refine Calls.mono a4 ?_; clear a4; rintro e Wq ⟨he, hww⟩; rw [hww]; clear hww Wq; obtain rfl := he)
    | (have hh := a5; clear hh; go_at_call 63; refine Calls.mono a5 ?_; clear a5; rintro e W1 ⟨gk, ak, he, hgk, hak, hca, hb1⟩; obtain rfl := he; have bu := built117 gd gl gk W1.heap.size pages undo most)
    | (have hh := tb; clear hh tb; refine build_parts rfl 117 #[(0, .tmp 39), (1, .tmp 41), (2, .tmp 43), (3, .tmp 44), (4, .tmp 45), (5, .tmp 46), (7, .tmp 47)] rfl [(0, .pointer (some ⟨gd, 0, none⟩)), (1, .iface 24 (.pointer (some ⟨gl, 0, none⟩))), (2, .pointer (some ⟨gk, 0, none⟩)), (3, .int .i64 pages), (4, .int .i64 undo), (5, .int .i64 most), (7, .map (some W1.heap.size))] rfl #[.pointer (some ⟨gd, 0, none⟩), .iface 24 (.pointer (some ⟨gl, 0, none⟩)), .pointer (some ⟨gk, 0, none⟩), .int .i64 pages, .int .i64 undo, .int .i64 most, .slice none 0 0, .map (some W1.heap.size)] bu ?_))
  have e1 : (W1.alloc (.map #[] 0)).heap.size = W1.heap.size + 1 := Array.size_push ..
  have b2 : Below W1.heap.size W1 (W1.alloc (.map #[] 0)) := (Below.refl _ _).alloc (Nat.le_refl _) _
  have b3 : Below W1.heap.size W1 ((W1.alloc (.map #[] 0)).alloc (.cells #[.pointer (some ⟨gd, 0, none⟩), .iface 24 (.pointer (some ⟨gl, 0, none⟩)), .pointer (some ⟨gk, 0, none⟩), .int .i64 pages, .int .i64 undo, .int .i64 most, .slice none 0 0, .map (some W1.heap.size)] 117)) := b2.alloc b2.size _
  have rr : Row ((W1.alloc (.map #[] 0)).alloc (.cells #[.pointer (some ⟨gd, 0, none⟩), .iface 24 (.pointer (some ⟨gl, 0, none⟩)), .pointer (some ⟨gk, 0, none⟩), .int .i64 pages, .int .i64 undo, .int .i64 most, .slice none 0 0, .map (some W1.heap.size)] 117)) (W1.heap.size + 1) #[.pointer (some ⟨gd, 0, none⟩), .iface 24 (.pointer (some ⟨gl, 0, none⟩)), .pointer (some ⟨gk, 0, none⟩), .int .i64 pages, .int .i64 undo, .int .i64 most, .slice none 0 0, .map (some W1.heap.size)] 117 := by
    have := Row.new (W1.alloc (.map #[] 0)) #[.pointer (some ⟨gd, 0, none⟩), .iface 24 (.pointer (some ⟨gl, 0, none⟩)), .pointer (some ⟨gk, 0, none⟩), .int .i64 pages, .int .i64 undo, .int .i64 most, .slice none 0 0, .map (some W1.heap.size)] 117
    rw [e1] at this; exact this
  have mm : WMap ((W1.alloc (.map #[] 0)).alloc (.cells #[.pointer (some ⟨gd, 0, none⟩), .iface 24 (.pointer (some ⟨gl, 0, none⟩)), .pointer (some ⟨gk, 0, none⟩), .int .i64 pages, .int .i64 undo, .int .i64 most, .slice none 0 0, .map (some W1.heap.size)] 117)) W1.heap.size 0 (fun _ _ => none) :=
    (WMap.made W1).off (F := fun _ => False) (Off.of_below ((Below.refl _ _).alloc (Nat.le_refl _) _)) (fun q => q)
  have hck := hca.below b3
  have hsz := hb1.size
  have hld := HLD.out.below (hb1.trans (b3.mono hb1.size))
  have hbb := hb1.trans (b3.mono hb1.size)
  try rw [e1]
  generalize (W1.alloc (.map #[] 0)).alloc (.cells #[.pointer (some ⟨gd, 0, none⟩), .iface 24 (.pointer (some ⟨gl, 0, none⟩)), .pointer (some ⟨gk, 0, none⟩), .int .i64 pages, .int .i64 undo, .int .i64 most, .slice none 0 0, .map (some W1.heap.size)] 117) = W2 at rr mm hck hld hbb ⊢
  refine HPO.out (W1.heap.size + 1) gk ak W2 hbb (by omega) ⟨fun j => lfoot gl gd vl vs L j ∨ cfoot (W1.heap.size + 1) gk ak (.slice none 0 0) W1.heap.size j, ⟨⟨.slice none 0 0, W1.heap.size, 0, vl, vs, L, ⟨rr, ⟨rfl, Or.inl ⟨rfl, rfl⟩⟩, mm, hck, by omega⟩, hld, fun j q q2 => ?_, fun j q => q⟩, HOKC.out, fun j q => ?_⟩, fun j q => ?_⟩
  · have := HLD.out.lt q
    rcases q2 with q2 | q2 | q2 | q2 | q2
    · omega
    · cases q2
    · omega
    · omega
    · omega
  · rcases q with q | q
    · exact hld.lt q
    · rcases q with q | q | q | q | q
      · rw [q]; exact rr.lt
      · cases q
      · rw [q]; exact mm.lt
      · rw [q]; exact hck.row.lt
      · rw [q]; exact hck.arr.lt
  · rcases q with q | q
    · exact Or.inl (HFF.out j q)
    · rcases q with q | q | q | q | q
      · exact Or.inr (by omega)
      · cases q
      · exact Or.inr (by omega)
      · exact Or.inr (by omega)
      · exact Or.inr (by omega)
def log0 : Lg := ⟨12, 48, 1, [], [], ByteArray.empty, 0, true, 1, 1⟩
theorem LStep.fresh {w w1 w2 : World} {gd gl : Nat} {d : Dsk} {L : Loc} {N : Nat} {a z ep num fin : Int} (hD : DAt w1 gd d L N) (hb : Below w1.heap.size w1 w2) (hg : w1.heap.size ≤ gl) (hr : Row w2 gl (lcells (.pointer (some ⟨gd, 0, none⟩)) (.slice none 0 0) (.slice none 0 0) ⟨a, z, ep, [], [], ByteArray.empty, num, true, fin, fin⟩) 99) (F : Nat → Prop) (o : Off F w w1) (hF : ∀ j, foot gd L j → F j ∨ w.heap.size ≤ j) :
    LStep w gl gd F ⟨a, z, ep, [], [], ByteArray.empty, num, true, fin, fin⟩ d N w2 := by
  refine ⟨_, _, L, ⟨hr, OwnU.nil _ _, OwnCk.nil _ _, hD.below hb, (fun q => by have := hD.lt q; omega), (fun j q => by cases q), (fun j q => by cases q)⟩, o.trans (Off.of_below (F := fun _ => False) hb) (fun _ q => q.elim), fun j q => ?_⟩
  have := o.size
  rcases q with q | q | q | q
  · exact Or.inr (by omega)
  · cases q
  · cases q
  · exact hF j q
def OverQ (w : World) (fr : Nat) (e : Ending) (w' : World) : Prop :=
  ∃ gd gl gc gk ak F', e = .returned (.tuple #[.pointer (some ⟨gd, 0, none⟩), .pointer (some ⟨gl, 0, none⟩), .pointer (some ⟨gc, 0, none⟩)]) ∧ Below w.heap.size w w' ∧ CL w' F' gc gd gl gk ak (newC 4 5 fr) log0 (Dsk.new 60) 0 0 ∧ ∀ j, F' j → w.heap.size ≤ j
set_option maxHeartbeats 2000000 in
theorem over_any (fr : Nat) (h : 4 ≤ fr ∧ fr ≤ 32) (w : World) : Calls Try.prog 8 #[.int .i64 fr] w fun e w' => OverQ w fr e w' := by
  obtain ⟨PP, HPP⟩ : ∃ PP : Ending → World → Prop, Hid (PP = fun e w' => OverQ w fr e w') := ⟨_, rfl⟩
  rw [← HPP.out]
  have HPO : Hid (∀ gd gl gc gk ak F' W, Below w.heap.size w W → CL W F' gc gd gl gk ak (newC 4 5 fr) log0 (Dsk.new 60) 0 0 → (∀ j, F' j → w.heap.size ≤ j) → PP (.returned (.tuple #[.pointer (some ⟨gd, 0, none⟩), .pointer (some ⟨gl, 0, none⟩), .pointer (some ⟨gc, 0, none⟩)])) W) := by
    rw [HPP.out]
    exact fun gd gl gc gk ak F' W a b c => ⟨gd, gl, gc, gk, ak, F', rfl, a, b, c⟩
  clear HPP
  have a1 := new_some 60 (by omega) (by omega) w
  obtain ⟨gd, HGD⟩ : ∃ gd, Hid (w.heap.size + 2 = gd) := ⟨_, rfl⟩
  rw [HGD.out] at a1
  have HH : Hid (4 ≤ fr ∧ fr ≤ 32) := h
  clear h
  go_enter Try.func8, Try.ntmps8
  go_wp2_with (first
    | (have hh := a1; clear hh; go_at_call 34; refine Calls.mono a1 ?_; clear a1; rintro e W1 ⟨he, hD, hb1⟩; obtain rfl := he; have a2 := lnew_nil (some ⟨gd, 0, none⟩) 12 48 1 0 1 60 W1 (by decide) (by decide) (fun wa hb => size_any (hD.below hb)))
    | (have hh := a2; clear hh; go_at_call 35; refine Calls.mono a2 ?_; clear a2; rintro e W2 ⟨hb2, _, hgl⟩; obtain ⟨gl, hgl1, he, hr⟩ := hgl (by decide); obtain rfl := he; clear hgl; have hst := LStep.fresh (w := W1) hD hb2 hgl1 hr (foot gd (Loc.new w.heap.size)) (Off.refl _ _) (fun j q => Or.inl q); obtain ⟨vl, vs, L, lD, hof, hlf⟩ := hst; have a3 := cnew_some lD (F := fun j => lfoot gl gd vl vs L j) (fun j q => q) 4 5 fr (by decide) (by decide) HH.out (by show 2 + 4 + 5 ≤ 60; omega))
    | (have hh := a3; clear hh; go_at_call 28; refine Calls.mono a3 ?_; clear a3; rintro e W3 ⟨gc, gk, ak, he, hb3, hgc, F3, c3, hF3⟩; obtain rfl := he))
  go_ret3
  refine HPO.out gd gl gc gk ak F3 W3 (hb1.trans ((hb2.mono hb1.size).trans (hb3.mono (Nat.le_trans hb1.size hb2.size)))) c3 fun j q => ?_
  have q1 := hb1.size
  have q2 := hb2.size
  rcases hF3 j q with y | y
  · rcases hlf j y with z | z
    · rw [← HGD.out] at z
      exact new_foot _ _ z
    · omega
  · omega
def fO (b : Int) : O := ⟨true, 0, b, 0, 0, ByteArray.empty⟩
def fillP (u : Bool) (k : Int) (b lsn : Int) : List Int := if u = true then putU k lsn [fO b] else putD k ⟨lsn, b, 0, 0, zs 64⟩
theorem built130f (b : Int) : (Try.prog.built 130 [(0, .bool true), (2, .int .u32 b)]) = some (fO b).arr := by kernel_rfl
theorem built103f (lsn : Int) (X : Nat) : (Try.prog.built 103 [(0, .int .u64 lsn), (1, .slice (some ⟨X, 0, none⟩) 1 1)]) = some #[.int .u64 lsn, .slice (some ⟨X, 0, none⟩) 1 1] := by kernel_rfl
theorem built109f (lsn b : Int) : (Try.prog.built 109 [(0, .int .u64 lsn), (1, .int .u32 b)]) = some (D.mk lsn b 0 0 (zs 64)).arr := by kernel_rfl
theorem wp_old_one {o : Oper} {a : Act} {w : World} {K : Act → World → Prop} {Q : Exit → Act → World → Prop} (x : Operand) (ho : o.op = .buildSlice 101 1 #[(0, x)]) (va : Array Value) (hb : va.size = 6) (hx : a.eval x = .agg va)
    (h : K (a.put o.dst (.slice (some ⟨w.heap.size, 0, none⟩) 1 1)) (w.alloc (.cells va 130))) : Oper.wp Try.prog o a w K Q := by
  obtain ⟨i, hi, hz, hs, _⟩ := info_parts info130
  refine wp_buildSlice 101 130 1 _ ho va i _ Try.underlying101 hi hz (by rw [hs]; decide) (by rw [hs]; decide) ?_ h
  have e1 : (#[(0, x)].map fun (i, x) => (i, a.eval x)).toList = [(0, .agg va)] := by simp [hx]
  rw [e1, fill_step _ _ 0 (.agg va) _ 0 6 (by simp [hs]) (by show va.size = 6; exact hb) (by simp [hs])]
  unfold Instr.fill
  congr 1
  show (⟨splice _ 0 va.toList⟩ : Array Value) = va
  unfold splice
  rw [List.take_zero, List.nil_append, Array.length_toList, hb, List.drop_of_length_le (by simp [hs]), List.append_nil]
theorem olds_one {w : World} {X : Nat} {o : O} (h : Row w X o.arr 130) : Olds w (.slice (some ⟨X, 0, none⟩) 1 1) [o] :=
  Or.inr ⟨⟨X, 0, none⟩, 1, rfl, fun j u hj => by
    have h1 : flat [o] = o.cells := by simp [flat]
    rw [h1] at hj
    rw [Addr.add_mid, Nat.zero_add]
    exact row_at h j _ (by rw [← Array.getElem?_toList]; exact hj)⟩
theorem fO_fits {b : Int} (hb : 0 ≤ b ∧ b ≤ 255) : (fO b).Fits := ⟨(by show (0 : Int) ≤ 0 ∧ (0 : Int) ≤ 65535; omega), (by show 0 ≤ b ∧ b ≤ 4294967295; omega), (by show (0 : Int) ≤ 0 ∧ (0 : Int) ≤ 65535; omega), (by show (0 : Int) ≤ 0 ∧ (0 : Int) ≤ 255; omega)⟩
set_option maxHeartbeats 2000000 in
theorem fill_u (k b lsn : Int) (hk : 0 ≤ k ∧ k ≤ 65535) (hb : 0 ≤ b ∧ b ≤ 255) (hl : 0 ≤ lsn ∧ lsn ≤ 18446744073709551615) (w : World) : Calls Try.prog 19 #[.agg #[.bool true, .int .u16 k], .int .u8 b, .int .u64 lsn] w fun e w' => e = .returned (.agg (bs (putU k lsn [fO b]))) ∧ Below w.heap.size w w' := by
  obtain ⟨PP, HPP⟩ : ∃ PP : Ending → World → Prop, Hid (PP = fun e w' => e = .returned (.agg (bs (putU k lsn [fO b]))) ∧ Below w.heap.size w w') := ⟨_, rfl⟩
  rw [← HPP.out]
  have hz34 := zero34
  obtain ⟨ZP, HZPD⟩ : ∃ ZP, Hid (bs (zs 224) = ZP) := ⟨_, rfl⟩
  have HZP : Hid (ZP.size = 224) := by rw [← HZPD.out, bs_size]; exact zs_length _
  rw [HZPD.out] at hz34
  have e1 : (w.alloc (.cells #[.bool true, .int .u16 k] 31)).heap.size = w.heap.size + 1 := Array.size_push ..
  have ab0 : Below w.heap.size w (w.alloc (.cells #[.bool true, .int .u16 k] 31)) := (Below.refl _ _).alloc (Nat.le_refl _) _
  have ab : Below w.heap.size w ((w.alloc (.cells #[.bool true, .int .u16 k] 31)).alloc (.cells ZP 34)) := ab0.alloc ab0.size _
  have r0 : Row ((w.alloc (.cells #[.bool true, .int .u16 k] 31)).alloc (.cells ZP 34)) w.heap.size #[.bool true, .int .u16 k] 31 := (Row.new _ _ _).alloc _
  have r1 : Row ((w.alloc (.cells #[.bool true, .int .u16 k] 31)).alloc (.cells ZP 34)) (w.heap.size + 1) ZP 34 := by have := Row.new (w.alloc (.cells #[.bool true, .int .u16 k] 31)) ZP 34; rw [e1] at this; exact this
  have HBW : Hid (IntKind.u32.wrap b = b) := by show _ = _; rw [IntKind.wrap_u32]; omega
  have hbw := HBW.out
  have HPU : Hid (∀ W X, Row W X (fO b).arr 130 → Calls Try.prog 54 #[.int .u16 k, .agg #[.int .u64 lsn, .slice (some ⟨X, 0, none⟩) 1 1]] W fun e w' => e = .returned (.tuple #[.agg (bs (putU k lsn [fO b])), .bool (may [fO b])]) ∧ Below W.heap.size W w') := fun W X h => rputUndo_any k lsn _ [fO b] W (olds_one h) (fun o ho => by rw [List.mem_singleton.1 ho]; exact fO_fits hb) hk hl
  have bu := built130f b
  have hla : ((fO b).arr).size = 6 := rfl
  obtain ⟨FO, HFO⟩ : ∃ FO, Hid ((fO b).arr = FO) := ⟨_, rfl⟩
  rw [HFO.out] at HPU bu hla
  have HLA : Hid (FO.size = 6) := hla
  have HRS : Hid ((bs (putU k lsn [fO b])).size = 224) := by rw [bs_size]; exact putU_length k lsn [fO b]
  have hro := bs_one (putU k lsn [fO b])
  obtain ⟨RP, HRP⟩ : ∃ RP, Hid (bs (putU k lsn [fO b]) = RP) := ⟨_, rfl⟩
  obtain ⟨mb, HMB⟩ : ∃ mb, Hid (may [fO b] = mb) := ⟨_, rfl⟩
  rw [HRP.out, HMB.out] at HPU
  rw [HRP.out] at HRS hro HPP
  have hb3 := built103f lsn
  clear hk hb hl ab0 e1 hla
  go_enter Try.func19, Try.ntmps19
  go_upto_region 1 with fail
  generalize ((w.alloc (.cells #[.bool true, .int .u16 k] 31)).alloc (.cells ZP 34)) = W0 at r0 r1 ab ⊢
  obtain ⟨A0, HA0⟩ : ∃ A0, Hid (w.heap.size = A0) := ⟨_, rfl⟩
  obtain ⟨A1, HA1D⟩ : ∃ A1, Hid (w.heap.size + 1 = A1) := ⟨_, rfl⟩
  have e2 : (w.alloc (.cells #[.bool true, .int .u16 k] 31)).heap.size = w.heap.size + 1 := Array.size_push ..
  rw [HA1D.out] at r1
  try rw [e2]
  try rw [HA1D.out]
  have HA1 : Hid (w.heap.size ≤ A1) := by rw [← HA1D.out]; show _ ≤ _; omega
  rw [HA0.out] at r0 ⊢
  clear e2
  have q0 := row_at r0 0 _ rfl
  have q1 := row_at r0 1 _ rfl
  have tb : Hid (1 = 1) := rfl
  have tc : Hid (1 = 1) := rfl
  have td : Hid (1 = 1) := rfl
  have te : Hid (1 = 1) := rfl
  have tf : Hid (1 = 1) := rfl
  have tg : Hid (1 = 1) := rfl
  go_wp2_with (first
    | (have hh := tb; clear hh tb; refine build_parts rfl 130 #[(0, .const (.bool true)), (2, .tmp 16)] rfl [(0, .bool true), (2, .int .u32 b)] rfl FO bu ?_)
    | (have hh := tc; clear hh tc; refine wpList_plain rfl fun K hK => wp_old_one (.tmp 17) rfl FO HLA.out rfl (hK _ _ ?_); have rX : Row (W0.alloc (.cells FO 130)) W0.heap.size FO 130 := Row.new _ _ _; have hpu := HPU.out _ _ rX; have ab1 := ab.alloc ab.size (.cells FO 130); have r11 := r1.alloc (.cells FO 130))
    | (have hh := td; clear hh td; refine build_parts rfl 103 #[(0, .tmp 14), (1, .tmp 18)] rfl [(0, .int .u64 lsn), (1, .slice (some ⟨W0.heap.size, 0, none⟩) 1 1)] rfl _ (hb3 W0.heap.size) ?_)
    | (have hh := hpu; clear hh; go_at_call 54; refine Calls.mono hpu ?_; clear hpu; rintro e W3 ⟨he, hb4⟩; obtain rfl := he; have ab3 := ab1.trans (hb4.mono ab1.size); have r13 := r11.below hb4 r11.lt; have rY : Row (W3.alloc (.cells ZP 34)) W3.heap.size ZP 34 := Row.new _ _ _)
    | (have hh := te; clear hh te; refine store_cells rfl 34 (.tmp 7) (.tmp 21) rfl W3.heap.size RP rfl rfl 34 _ rY 224 size34 HZP.out HRS.out hro ?_; have ab4 := ab3.alloc ab3.size (.cells ZP 34); have rZ := rY.set RP; have r14 : Row ((W3.alloc (.cells ZP 34)).setRow W3.heap.size RP) A1 ZP 34 := (r13.alloc (.cells ZP 34)).other (by have := r13.lt; omega) RP; have ab5 := below_setRow ab4 ab3.size RP)
    | (have hh := tf; clear hh tf; refine load_cells rfl 34 (.tmp 7) rfl W3.heap.size rfl 34 RP rZ 224 Try.underlying34 rfl size34 HRS.out ?_)
    | (have hh := tg; clear hh tg; refine store_cells rfl 34 (.tmp 6) (.tmp 23) rfl A1 RP rfl rfl 34 _ r14 224 size34 HZP.out HRS.out hro ?_))
  refine bodyPost_ret (v := .agg RP) (ret_cell (fn := Try.f19) rfl _ _ A1 34 RP _ rfl (r14.set RP) Try.underlying34 rfl (by rw [size34, HRS.out])) rfl ?_
  rw [HPP.out]
  exact ⟨rfl, below_setRow ab5 HA1.out _⟩
set_option maxHeartbeats 2000000 in
theorem fill_d (k b lsn : Int) (hk : 0 ≤ k ∧ k ≤ 65535) (hb : 0 ≤ b ∧ b ≤ 255) (hl : 0 ≤ lsn ∧ lsn ≤ 18446744073709551615) (w : World) : Calls Try.prog 19 #[.agg #[.bool false, .int .u16 k], .int .u8 b, .int .u64 lsn] w fun e w' => e = .returned (.agg (bs (putD k ⟨lsn, b, 0, 0, zs 64⟩))) ∧ Below w.heap.size w w' := by
  obtain ⟨PP, HPP⟩ : ∃ PP : Ending → World → Prop, Hid (PP = fun e w' => e = .returned (.agg (bs (putD k ⟨lsn, b, 0, 0, zs 64⟩))) ∧ Below w.heap.size w w') := ⟨_, rfl⟩
  rw [← HPP.out]
  have hz34 := zero34
  obtain ⟨ZP, HZPD⟩ : ∃ ZP, Hid (bs (zs 224) = ZP) := ⟨_, rfl⟩
  have HZP : Hid (ZP.size = 224) := by rw [← HZPD.out, bs_size]; exact zs_length _
  rw [HZPD.out] at hz34
  have e1 : (w.alloc (.cells #[.bool false, .int .u16 k] 31)).heap.size = w.heap.size + 1 := Array.size_push ..
  have ab0 : Below w.heap.size w (w.alloc (.cells #[.bool false, .int .u16 k] 31)) := (Below.refl _ _).alloc (Nat.le_refl _) _
  have ab : Below w.heap.size w ((w.alloc (.cells #[.bool false, .int .u16 k] 31)).alloc (.cells ZP 34)) := ab0.alloc ab0.size _
  have r0 : Row ((w.alloc (.cells #[.bool false, .int .u16 k] 31)).alloc (.cells ZP 34)) w.heap.size #[.bool false, .int .u16 k] 31 := (Row.new _ _ _).alloc _
  have r1 : Row ((w.alloc (.cells #[.bool false, .int .u16 k] 31)).alloc (.cells ZP 34)) (w.heap.size + 1) ZP 34 := by have := Row.new (w.alloc (.cells #[.bool false, .int .u16 k] 31)) ZP 34; rw [e1] at this; exact this
  have HBW : Hid (IntKind.u32.wrap b = b) := by show _ = _; rw [IntKind.wrap_u32]; omega
  have hbw := HBW.out
  have HPU : Hid (∀ W, Calls Try.prog 55 #[.int .u16 k, .agg (D.mk lsn b 0 0 (zs 64)).arr] W fun e w' => e = .returned (.agg (bs (putD k ⟨lsn, b, 0, 0, zs 64⟩))) ∧ Below W.heap.size W w') := fun W => rputData_any k ⟨lsn, b, 0, 0, zs 64⟩ W hk ⟨hl, (by show 0 ≤ b ∧ b ≤ 4294967295; omega), (by show (0 : Int) ≤ 0 ∧ (0 : Int) ≤ 65535; omega), (by show (0 : Int) ≤ 0 ∧ (0 : Int) ≤ 255; omega), zs_length _, zs_bytes _⟩
  have bu := built109f lsn b
  obtain ⟨DA, HDA⟩ : ∃ DA, Hid ((D.mk lsn b 0 0 (zs 64)).arr = DA) := ⟨_, rfl⟩
  rw [HDA.out] at HPU bu
  have HRS : Hid ((bs (putD k ⟨lsn, b, 0, 0, zs 64⟩)).size = 224) := by rw [bs_size]; exact putD_length _ _ (zs_length _)
  have hro := bs_one (putD k ⟨lsn, b, 0, 0, zs 64⟩)
  obtain ⟨RP, HRP⟩ : ∃ RP, Hid (bs (putD k ⟨lsn, b, 0, 0, zs 64⟩) = RP) := ⟨_, rfl⟩
  rw [HRP.out] at HPU HRS hro HPP
  clear hk hb hl ab0 e1
  go_enter Try.func19, Try.ntmps19
  go_upto_region 1 with fail
  generalize ((w.alloc (.cells #[.bool false, .int .u16 k] 31)).alloc (.cells ZP 34)) = W0 at r0 r1 ab ⊢
  obtain ⟨A0, HA0⟩ : ∃ A0, Hid (w.heap.size = A0) := ⟨_, rfl⟩
  obtain ⟨A1, HA1D⟩ : ∃ A1, Hid (w.heap.size + 1 = A1) := ⟨_, rfl⟩
  have e2 : (w.alloc (.cells #[.bool false, .int .u16 k] 31)).heap.size = w.heap.size + 1 := Array.size_push ..
  rw [HA1D.out] at r1
  try rw [e2]
  try rw [HA1D.out]
  have HA1 : Hid (w.heap.size ≤ A1) := by rw [← HA1D.out]; show _ ≤ _; omega
  rw [HA0.out] at r0 ⊢
  clear e2
  have q0 := row_at r0 0 _ rfl
  have q1 := row_at r0 1 _ rfl
  have tb : Hid (1 = 1) := rfl
  have tg : Hid (1 = 1) := rfl
  have hpu := HPU.out W0
  go_wp2_with (first
    | (have hh := tb; clear hh tb; refine build_parts rfl 109 #[(0, .tmp 26), (1, .tmp 28)] rfl [(0, .int .u64 lsn), (1, .int .u32 b)] rfl DA bu ?_)
    | (have hh := hpu; clear hh; go_at_call 55; refine Calls.mono hpu ?_; clear hpu; rintro e W3 ⟨he, hb4⟩; obtain rfl := he; have ab3 := ab.trans (hb4.mono ab.size); have r13 := r1.below hb4 r1.lt)
    | (have hh := tg; clear hh tg; refine store_cells rfl 34 (.tmp 6) (.tmp 30) rfl A1 RP rfl rfl 34 _ r13 224 size34 HZP.out HRS.out hro ?_))
  refine bodyPost_ret (v := .agg RP) (ret_cell (fn := Try.f19) rfl _ _ A1 34 RP _ rfl (r13.set RP) Try.underlying34 rfl (by rw [size34, HRS.out])) rfl ?_
  rw [HPP.out]
  exact ⟨rfl, below_setRow ab3 HA1.out _⟩
theorem fill_any (u : Bool) (k b lsn : Int) (hk : WfU k) (hb : 0 ≤ b ∧ b ≤ 255) (hl : 0 ≤ lsn ∧ lsn ≤ 18446744073709551615) (w : World) : Calls Try.prog 19 #[idv u k, .int .u8 b, .int .u64 lsn] w fun e w' => e = .returned (.agg (bs (fillP u k b lsn))) ∧ Below w.heap.size w w' := by
  cases u with
  | true => exact fill_u k b lsn (wfu hk) hb hl w
  | false => exact fill_d k b lsn (wfu hk) hb hl w
theorem fillP_length (u : Bool) (k b lsn : Int) : (fillP u k b lsn).length = 224 := by
  unfold fillP
  split
  · exact putU_length k lsn [fO b]
  · exact putD_length _ _ (zs_length _)
theorem flush_ops {l : Lg} (hi : l.Inv) (d : Dsk) : (flushR l d).2.2.ops ≤ d.ops + 1000 := by
  have h := closed_len hi
  unfold flushR flushC
  split
  · have h1 := layR_ops l.closed.at_ l.closed.size (l.closed.sealed.take 1) d
    have h2 := layR_ops l.closed.at_ l.closed.size (l.closed.sealed.drop 1) (layR l.closed.at_ l.closed.size (l.closed.sealed.take 1) d).2
    have h3 : (l.closed.sealed.take 1).length ≤ 1 := by rw [List.length_take]; omega
    have h4 : (l.closed.sealed.drop 1).length ≤ 700 := by rw [List.length_drop]; omega
    split
    · unfold restR
      simp only
      split
      · show (layR l.closed.at_ l.closed.size (l.closed.sealed.drop 1) _).2.ops ≤ _; omega
      · show (layR l.closed.at_ l.closed.size (l.closed.sealed.drop 1) _).2.ops ≤ _; omega
    · show (layR l.closed.at_ l.closed.size (l.closed.sealed.take 1) d).2.ops ≤ _; omega
  · have h1 := layR_ops l.closed.at_ l.closed.size (l.closed.sealed.drop 0) d
    have h4 : (l.closed.sealed.drop 0).length ≤ 700 := by rw [List.drop_zero]; omega
    unfold restR
    split
    · show (layR l.closed.at_ l.closed.size (l.closed.sealed.drop 0) _).2.ops ≤ _; omega
    · show (layR l.closed.at_ l.closed.size (l.closed.sealed.drop 0) _).2.ops ≤ _; omega
theorem log0_inv : log0.Inv := ⟨by decide, by decide, by decide, by decide, by decide, by decide, (fun c hc => nomatch hc), by decide⟩
def CS (w0 : World) (F : Nat → Prop) (gc gd gl gk ak : Nat) (s : Cs) (l : Lg) (d : Dsk) (M : Int) (N : Nat) (W : World) : Prop := Below w0.heap.size w0 W ∧ CL W F gc gd gl gk ak s l d M N ∧ ∀ j, F j → w0.heap.size ≤ j
def Tr (F : Nat → Prop) (W : World) (F' : Nat → Prop) (W' : World) : Prop := Off F W W' ∧ ∀ k, k < W.heap.size → F' k → F k
def CLoc (F : Nat → Prop) (W : World) (k : Nat) (cs : Array Value) (t : TypeId) : Prop := Row W k cs t ∧ ¬ F k
theorem CLoc.tr {F F' : Nat → Prop} {W W' : World} {k : Nat} {cs : Array Value} {t : TypeId} (h : CLoc F W k cs t) (q : Tr F W F' W') : CLoc F' W' k cs t := ⟨h.1.off q.1 h.2, fun y => h.2 (q.2 k h.1.lt y)⟩
theorem CLoc.below {F : Nat → Prop} {W W' : World} {k : Nat} {cs : Array Value} {t : TypeId} (h : CLoc F W k cs t) (hb : Below W.heap.size W W') : CLoc F W' k cs t := ⟨h.1.below hb h.1.lt, h.2⟩
theorem CS.step {w0 : World} {F : Nat → Prop} {gc gd gl gk ak : Nat} {s s' : Cs} {l l' : Lg} {d d' : Dsk} {M M' : Int} {N N' : Nat} {W W' : World} (h : CS w0 F gc gd gl gk ak s l d M N W) (hst : CStep W F gc gd gl gk ak s' l' d' M' N' W') : ∃ F', CS w0 F' gc gd gl gk ak s' l' d' M' N' W' ∧ Tr F W F' W' := by
  obtain ⟨o, F', c, k⟩ := hst
  refine ⟨F', ⟨h.1.trans (o.below h.1.size h.2.2), c, fun j q => ?_⟩, o, k⟩
  rcases Nat.lt_or_ge j W.heap.size with y | y
  · exact h.2.2 j (k j y q)
  · have := h.1.size; omega
theorem CS.below {w0 : World} {F : Nat → Prop} {gc gd gl gk ak : Nat} {s : Cs} {l : Lg} {d : Dsk} {M : Int} {N : Nat} {W W' : World} (h : CS w0 F gc gd gl gk ak s l d M N W) (hb : Below W.heap.size W W') : CS w0 F gc gd gl gk ak s l d M N W' := ⟨h.1.trans (hb.mono h.1.size), h.2.1.below hb, h.2.2⟩
theorem CS.alloc {w0 : World} {F : Nat → Prop} {gc gd gl gk ak : Nat} {s : Cs} {l : Lg} {d : Dsk} {M : Int} {N : Nat} {W : World} (h : CS w0 F gc gd gl gk ak s l d M N W) (o : Obj) : CS w0 F gc gd gl gk ak s l d M N (W.alloc o) := h.below ((Below.refl _ _).alloc (Nat.le_refl _) _)
theorem CLoc.alloc {F : Nat → Prop} {W : World} {k : Nat} {cs : Array Value} {t : TypeId} (h : CLoc F W k cs t) (o : Obj) : CLoc F (W.alloc o) k cs t := h.below ((Below.refl _ _).alloc (Nat.le_refl _) _)
theorem CS.newLoc {w0 : World} {F : Nat → Prop} {gc gd gl gk ak : Nat} {s : Cs} {l : Lg} {d : Dsk} {M : Int} {N : Nat} {W : World} (h : CS w0 F gc gd gl gk ak s l d M N W) (cs : Array Value) (t : TypeId) : CLoc F (W.alloc (.cells cs t)) W.heap.size cs t := ⟨Row.new _ _ _, fun q => by have := h.2.1.lt _ q; omega⟩
theorem CS.row {w0 : World} {F : Nat → Prop} {gc gd gl gk ak : Nat} {s : Cs} {l : Lg} {d : Dsk} {M : Int} {N : Nat} {W : World} (h : CS w0 F gc gd gl gk ak s l d M N W) {A : Nat} {c0 : Array Value} {t : TypeId} (hl : CLoc F W A c0 t) (hA : w0.heap.size ≤ A) (cs : Array Value) : CS w0 F gc gd gl gk ak s l d M N (W.setRow A cs) :=
  ⟨below_setRow h.1 hA _, h.2.1.off (G := (· = A)) (Off.of_setRow _ _ _ rfl) (fun j q e => hl.2 (by rw [← e]; exact q)), h.2.2⟩
theorem CLoc.set {F : Nat → Prop} {W : World} {k : Nat} {c0 : Array Value} {t : TypeId} (h : CLoc F W k c0 t) (cs : Array Value) : CLoc F (W.setRow k cs) k cs t := ⟨h.1.set cs, h.2⟩
theorem CLoc.other {F : Nat → Prop} {W : World} {k g : Nat} {c0 : Array Value} {t : TypeId} (h : CLoc F W k c0 t) (hg : k ≠ g) (cs : Array Value) : CLoc F (W.setRow g cs) k c0 t := ⟨h.1.off (F := (· = g)) (Off.of_setRow _ _ _ rfl) hg, h.2⟩
theorem blankP_head (u : Bool) (k : Int) : (blankP u k).getD 0 0 ≠ 0 := by
  unfold blankP
  split
  · have hm : may [] = true := by decide
    unfold putU
    rw [if_pos hm]
    rw [payT_at 2 k 0 (undoT []) (by decide) 0 (Or.inl (by omega))]
    show ((2 : Int) ≠ 0)
    decide
  · unfold putD
    show (payT 1 k 0 (dataT D.zero)).getD 0 0 ≠ 0
    rw [payT_at 1 k 0 (dataT D.zero) (by decide) 0 (Or.inl (by omega))]
    show ((1 : Int) ≠ 0)
    decide
theorem isD_head (no : Int) (p : List Int) (hb : p.length = 224) (hy : Bytes p) (h : isD no p = true) : p.getD 0 0 = 1 := by
  unfold isD at h
  have e := of_decide_eq_true h
  rw [← e]
  unfold putD
  rw [payT_at 1 no _ _ (by rw [dataT_length _ (by show ((p.drop 22).take 64).length = 64; rw [List.length_take, List.length_drop]; omega)]; omega) 0 (Or.inl (by omega))]
  rfl
def awkP : List Int := fillP false 1 7 3
theorem awkP_is : isP false 1 awkP = true := isD_putD 1 ⟨3, 7, 0, 0, zs 64⟩ ⟨by decide, by decide, by decide, by decide, zs_length _, zs_bytes _⟩
theorem pay_zs : Sl.payN (zs 256) 4 = zs 224 := by decide +kernel
theorem open_zs (u : Bool) (k : Int) (h : isP u k (zs 224) = false) : openF u k (zs 256) = ⟨u, k, blankP u k, true, false, 0⟩ := by
  unfold openF
  rw [pay_zs, if_neg (by rw [h]; simp)]
theorem isD_zs (k : Int) : isD k (zs 224) = false := by
  cases q : isD k (zs 224) with
  | false => rfl
  | true =>
    have := isD_head k (zs 224) (zs_length _) (zs_bytes _) q
    have h0 : (zs 224).getD 0 0 = 0 := by decide
    omega
theorem awk_first {p : List Int} {E : Int} {s1 : Cs} {l1 : Lg} {d1 : Dsk} (h : Fetches (newC 4 5 4) log0 (Dsk.new 60) false 1 p E s1 l1 d1) :
    p = blankP false 1 ∧ E = 0 ∧ l1 = log0 ∧ d1.ops = 1 ∧ ∃ f, s1.fs = [f] ∧ f.un = false ∧ f.no = 1 ∧ (s1.ck[0]?).map Cl.Fr.pins = some 1 ∧ isC s1 false 1 = true := by
  have hc : isC (newC 4 5 4) false 1 = true := by decide
  have hp : posF (newC 4 5 4).fs false 1 = none := rfl
  rcases h with ⟨h1, _⟩ | ⟨_, i, f, h1, _⟩ | ⟨_, _, i1, E1, s2, hl, hr⟩
  · rw [hc] at h1; cases h1
  · rw [hp] at h1; cases h1
  · obtain ⟨i, E0, s0, d0, hv, hl⟩ := hl
    have hv2 : i = 0 ∧ E0 = 0 ∧ s0 = newC 4 5 4 ∧ l1 = log0 ∧ d0 = Dsk.new 60 := by
      rcases hv with ⟨_, h1, h2, h3, h4, h5⟩ | ⟨h1, _⟩
      · exact ⟨h1, h2, h3, h4, h5⟩
      · exact absurd (show (0 : Nat) = 4 from h1) (by omega)
    obtain ⟨rfl, rfl, rfl, rfl, rfl⟩ := hv2
    have hrd : read (Dsk.new 60) (placeC (newC 4 5 4).pages false 1) = (zs 256, 0, (Dsk.new 60).tick 1) := by
      have e : placeC (newC 4 5 4).pages false 1 = 3 := by decide
      rw [e, read_well (new_well 60) 3 (by decide), new_seen]
      rfl
    rw [hrd] at hl
    have hof : openF false 1 (zs 256) = ⟨false, 1, blankP false 1, true, false, 0⟩ := open_zs false 1 (isD_zs 1)
    rcases hl with ⟨h1, _⟩ | ⟨_, h1, _⟩ | ⟨_, _, rfl, rfl, rfl, rfl⟩
    · exact absurd rfl h1
    · exact absurd rfl h1
    · rw [hof] at hr
      rcases hr with ⟨h1, _⟩ | ⟨_, rfl, rfl, f, hf, rfl⟩
      · exact absurd rfl h1
      · have hf2 : f = ⟨false, 1, blankP false 1, true, false, 0⟩ := by
          have : ([⟨false, 1, blankP false 1, true, false, 0⟩] : List Fm)[0]? = some f := hf
          simpa using this.symm
        subst hf2
        exact ⟨rfl, rfl, rfl, rfl, _, rfl, rfl, rfl, rfl, rfl⟩
theorem awk_rest {s1 : Cs} {f : Fm} (hfs : s1.fs = [f]) (hu : f.un = false) (hk : f.no = 1) (hp : (s1.ck[0]?).map Cl.Fr.pins = some 1) (hc : isC s1 false 1 = true) {l1 : Lg} {d1 : Dsk} {q : List Int} {E2 : Int} {s3 : Cs} {l3 : Lg} {d3 : Dsk} (h : Fetches (putS s1 false 1 awkP) l1 d1 false 1 q E2 s3 l3 d3) :
    q = awkP ∧ E2 = 0 ∧ pinsC s3 false 1 = 2 ∧ cleanC s3 false 1 = false := by
  have hpos : posF s1.fs false 1 = some 0 := by
    rw [hfs]
    unfold posF
    simp [hu, hk]
  obtain ⟨x0, hx0, hx1⟩ : ∃ x0, s1.ck[0]? = some x0 ∧ x0.pins = 1 := by
    cases q : s1.ck[0]? with
    | none => rw [q] at hp; cases hp
    | some x => rw [q] at hp; exact ⟨x, rfl, by simpa using hp⟩
  have hpc : pinsC s1 false 1 = 1 := by unfold pinsC; rw [hpos]; show ((s1.ck[0]?).map Cl.Fr.pins).getD 0 = 1; rw [hp]; rfl
  have he : putE s1 false 1 awkP = 0 := by unfold putE; rw [hpc, if_neg (by decide), awkP_is, if_pos rfl]
  have hf0 : s1.fs[0]? = some f := by rw [hfs]; rfl
  have hs2 : putS s1 false 1 awkP = { s1 with fs := [putF f awkP] } := by
    unfold putS
    rw [if_pos he, hpos]
    simp only [hf0]
    rw [hfs]; rfl
  rw [hs2] at h
  have hpos2 : posF [putF f awkP] false 1 = some 0 := by
    unfold posF
    simp [putF, hu, hk]
  rcases h with ⟨h1, _⟩ | ⟨_, i, g, h1, h2, rfl, rfl, rfl, _⟩ | ⟨_, h1, _⟩
  · have : isC s1 false 1 = false := h1
    rw [hc] at this; cases this
  · have h1' : posF [putF f awkP] false 1 = some i := h1
    rw [hpos2] at h1'
    cases h1'
    have h2' : ([putF f awkP] : List Fm)[0]? = some g := h2
    have hg : g = putF f awkP := by simpa using h2'.symm
    subst hg
    refine ⟨rfl, rfl, ?_, ?_⟩
    · unfold pinsC
      show (match posF [putF f awkP] false 1 with | some i => (((fetchP { s1 with fs := [putF f awkP] } 0).ck[i]?).map Cl.Fr.pins).getD 0 | none => 0) = 2
      rw [hpos2]
      unfold fetchP
      simp only [hx0]
      have hl := (List.getElem?_eq_some_iff.1 hx0).1
      rw [List.getElem?_set_self hl]
      show x0.pins + 1 = 2
      omega
    · unfold cleanC
      show (match posF [putF f awkP] false 1 with | some i => !((([putF f awkP] : List Fm)[i]?).map Fm.dirty).getD false | none => true) = false
      rw [hpos2]
      rfl
  · have h1' : posF [putF f awkP] false 1 = none := h1
    rw [hpos2] at h1'; cases h1'
theorem awk_put {s1 : Cs} {f : Fm} (hfs : s1.fs = [f]) (hu : f.un = false) (hk : f.no = 1) (hp : (s1.ck[0]?).map Cl.Fr.pins = some 1) : putE s1 false 1 awkP = 0 := by
  have hpos : posF s1.fs false 1 = some 0 := by
    rw [hfs]
    unfold posF
    simp [hu, hk]
  obtain ⟨x0, hx0, hx1⟩ : ∃ x0, s1.ck[0]? = some x0 ∧ x0.pins = 1 := by
    cases q : s1.ck[0]? with
    | none => rw [q] at hp; cases hp
    | some x => rw [q] at hp; exact ⟨x, rfl, by simpa using hp⟩
  have hpc : pinsC s1 false 1 = 1 := by unfold pinsC; rw [hpos]; show ((s1.ck[0]?).map Cl.Fr.pins).getD 0 = 1; rw [hp]; rfl
  unfold putE; rw [hpc, if_neg (by decide), awkP_is, if_pos rfl]
end Go.Proofs.Ytehogiondcpbcaa
