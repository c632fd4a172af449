/-
  Proved here: how a set is made, asked and read.
-/
import Derived.Test.YtmnbfcmamhinbabWsr
namespace Go.Proofs.Ytmnbfcmamhinbab.Ws
open Go.ChangeShapes Go.WideShapes Go.ChangeAt Go.RowKit
open Go.Deep Go.Maps
set_option linter.unusedVariables false
set_option linter.unusedSimpArgs false

theorem ret_cell2 {P : Program} {fn : Func} {p c : Tmp} {ty : TypeId} (h : fn.results = #[.cell p ty, .tmp c]) (tmps : Array Value) (w : World) (g : Nat) (t : TypeId) (cs : Array Value) (d : TypeDesc) (y : Value)
    (hp : tmps.getD p undef = .pointer (some ⟨g, 0, none⟩)) (hc : tmps.getD c undef = y) (hg : Row w g cs t)
    (hu : P.underlying ty = some d) (hd : (match d with | .struct _ | .array _ _ => true | _ => false) = true) (hi : (P.info? ty).map (·.size) = some cs.size) :
    (results fn tmps).run P w = .ok (.tuple #[.agg cs, y]) w := by
  have hp' : tmps[p]?.getD undef = .pointer (some ⟨g, 0, none⟩) := by simpa using hp
  have hc' : tmps[c]?.getD undef = y := by simpa using hc
  simp [results, h, hp', hc', asAddr, run_loadVar_row w g t ty cs (0, 0) _ hg hu hd hi]
theorem load_cells {P : Program} {ops : Array Oper} {rest : List Oper} {o : Oper} {a : Act} {w : World} {Q : Exit → Act → World → Prop} (hgd : o.guard = none) (ty : TypeId) (x : Operand) (ho : o.op = .load ty x)
    (g : Nat) (hx : a.eval x = .pointer (some ⟨g, 0, none⟩)) (t : TypeId) (cs : Array Value) (hg : Row w g cs t) (n : Nat) {d : TypeDesc}
    (hu : P.underlying ty = some d) (hd : (match d with | .struct _ | .array _ _ => true | _ => false) = true) (hi : (P.info? ty).map (·.size) = some n) (hn : cs.size = n)
    (h : wpList P ops Q rest (a.put o.dst (.agg cs)) w) : wpList P ops Q (o :: rest) a w :=
  wpList_load_row hgd ty x ho g hx t cs (0, 0) _ hg hu hd (by rw [hi, hn]) h

theorem size73 : (Try.prog.info? 73).map (·.size) = some 128 := by kernel_rfl
theorem size42 : (Try.prog.info? 42).map (·.size) = some 64 := by kernel_rfl
theorem zero73 (w : World) : (zeroValue 73).run Try.prog w = .ok (.agg (bs (zs 128))) w := (zero_of_info (P := Try.prog) (t := 73) (v := .agg (bs (zs 128))) (n := 128) (by kernel_rfl)).1 w
theorem zero42 (w : World) : (zeroValue 42).run Try.prog w = .ok (.agg (bs (zs 64))) w := (zero_of_info (P := Try.prog) (t := 42) (v := .agg (bs (zs 64))) (n := 64) (by kernel_rfl)).1 w
theorem below_setRow {B : Nat} {a w : World} (h : Below B a w) {g : Nat} (hg : B ≤ g) (cs : Array Value) : Below B a (w.setRow g cs) :=
  ⟨h.os, h.tape, h.output, by simp [World.setRow]; exact h.size, fun k hk => (setRow_other w g k cs (by omega)).trans (h.block k hk)⟩
theorem new_any (w : World) : Calls Try.prog 15 #[] w fun e w' => ∃ s, e = .returned (.pointer (some ⟨s, 0, none⟩)) ∧ w.heap.size ≤ s ∧ ∃ m, w.heap.size ≤ m ∧ SAt w' s m [] ∧ Below w.heap.size w w' := by
  have hmm := @run_makeMap Try.prog
  have own0 := World.ownsMap_made (H := List Int) w Try.prog 40 wrR
  have r1 : Row ((w.alloc (.map #[] 0)).alloc (.cells #[.map (some w.heap.size)] 71)) (w.alloc (.map #[] 0)).heap.size #[.map (some w.heap.size)] 71 := Row.new _ _ _
  have b0 : Below w.heap.size w (w.alloc (.map #[] 0)) := (Below.refl _ _).alloc (Nat.le_refl _) _
  have b1 : Below w.heap.size w ((w.alloc (.map #[] 0)).alloc (.cells #[.map (some w.heap.size)] 71)) := b0.alloc b0.size _
  have e1 : (w.alloc (.map #[] 0)).heap.size = w.heap.size + 1 := Array.size_push ..
  have HC : Hid (SAt ((w.alloc (.map #[] 0)).alloc (.cells #[.map (some w.heap.size)] 71)) (w.heap.size + 1) w.heap.size []) := { row := by rw [e1] at r1; exact r1, own := own0.alloc _, ne := by omega, rising := List.Pairwise.nil, small := by simp, wr := fun p hp => by simp at hp }
  have HB : Hid _ := b1
  clear own0 r1 b0 b1 e1
  go_enter Try.func15, Try.ntmps15
  go_wp2
  go_ret
  exact ⟨w.heap.size + 1, rfl, Nat.le_succ _, w.heap.size, Nat.le_refl _, HC.out, HB.out⟩
set_option maxRecDepth 20000 in
set_option maxHeartbeats 1000000 in
theorem find_any {w : World} {s m : Nat} {L : List (Int × List Int)} (c : SAt w s m L) (k : Int) (hk : (Lit.int .u16 k).wf = true) :
    Calls Try.prog 30 #[.pointer (some ⟨s, 0, none⟩), .int .u16 k] w fun e w' => e = .returned (.tuple #[.agg (bs (atP L k)), .bool (hasP L k)]) ∧ Below w.heap.size w w' := by
  have HA : Hid ((setD L).atKey (.int .u16 k) (.held (zs 128)) = .held (atP L k)) := setD_at L k
  have HH : Hid (Maps.has (setD L) (.int .u16 k) = hasP L k) := setD_has L k
  have HW : Hid (Wr (atP L k)) := c.at_wr k
  obtain ⟨ys, HY⟩ : ∃ ys, Hid (atP L k = ys) := ⟨_, rfl⟩
  rw [HY.out] at HA HW ⊢
  obtain ⟨b, HB⟩ : ∃ b, Hid (hasP L k = b) := ⟨_, rfl⟩
  rw [HB.out] at HH ⊢
  have hz := zero73
  have ab : Below w.heap.size w (w.alloc (.cells (bs (zs 128)) 73)) := (Below.refl _ _).alloc (Nat.le_refl _) _
  have r0 : Row (w.alloc (.cells (bs (zs 128)) 73)) w.heap.size (bs (zs 128)) 73 := Row.new _ _ _
  have c1 := c.below ab
  clear c
  go_enter Try.func30, Try.ntmps30
  go_upto_region 3 with fail
  obtain ⟨A0, HA0⟩ : ∃ A0, Hid (w.heap.size = A0) := ⟨_, rfl⟩
  generalize w.alloc (.cells (bs (zs 128)) 73) = W0 at ab r0 c1 ⊢
  rw [HA0.out] at r0 ⊢
  have c0 := row_at c1.row 0 _ rfl
  have hown := c1.own
  have rA : Row (W0.alloc (.cells (bs (zs 128)) 73)) W0.heap.size (bs (zs 128)) 73 := Row.new _ _ _
  have ab2 : Below W0.heap.size W0 (W0.alloc (.cells (bs (zs 128)) 73)) := (Below.refl _ _).alloc (Nat.le_refl _) _
  have hA0W : A0 < W0.heap.size := r0.lt
  have r1 : Row (W0.alloc (.cells (bs (zs 128)) 73)) A0 (bs (zs 128)) 73 := r0.below ab2 r0.lt
  have rB : Row ((W0.alloc (.cells (bs (zs 128)) 73)).setRow W0.heap.size (bs ys)) W0.heap.size (bs ys) 73 := rA.set _
  have r2 : Row ((W0.alloc (.cells (bs (zs 128)) 73)).setRow W0.heap.size (bs ys)) A0 (bs (zs 128)) 73 := r1.other (by omega) _
  have b2 : Below w.heap.size w ((W0.alloc (.cells (bs (zs 128)) 73)).setRow W0.heap.size (bs ys)) := below_setRow (ab.alloc ab.size _) ab.size _
  have ts : Hid (1 = 1) := rfl
  go_upto_region 4 with (first
    | (at_lookup; refine wpList_lookup_own_ok _ rfl _ _ 69 rfl 40 73 lawK Try.underlying69 wrR (hz _) (.held (zs 128)) [] (wrR_mk zs_wr) m _ _ rfl hown _ _ rfl (keyOf_int_mk Try.underlying40 hk) ?_; intro v ps hv; rw [HA.out] at hv; obtain ⟨xs, _, hvx, hxy⟩ := wrR_inv hv; obtain rfl : ys = xs := (by injection hxy with q; injection q); subst hvx; clear hv hxy; rw [HH.out])
    | (have hh := ts; clear hh ts; refine store_cells rfl 73 (.tmp 6) (.tmp 18) rfl W0.heap.size (bs ys) rfl rfl 73 _ rA 128 size73 (by rw [bs_size, zs_length]) (by rw [bs_size]; exact HW.out.1) (bs_one ys) ?_))
  clear r0 c1 hown c0 rA ab2 r1 hz
  generalize (W0.alloc (.cells (bs (zs 128)) 73)).setRow W0.heap.size (bs ys) = W1 at rB r2 b2 ⊢
  generalize W0.heap.size = A1 at rB hA0W ⊢
  have r3 : Row (W1.setRow A0 (bs ys)) A0 (bs ys) 73 := r2.set _
  have b3 : Below w.heap.size w (W1.setRow A0 (bs ys)) := below_setRow b2 (by rw [HA0.out]; exact Nat.le_refl _) _
  have tl : Hid (1 = 1) := rfl
  have ts : Hid (1 = 1) := rfl
  go_wp2_with (first
    | (have hh := tl; clear hh tl; refine load_cells rfl 73 (.tmp 6) rfl A1 rfl 73 (bs ys) rB 128 Try.underlying73 rfl size73 (by rw [bs_size]; exact HW.out.1) ?_)
    | (have hh := ts; clear hh ts; refine store_cells rfl 73 (.tmp 4) (.tmp 20) rfl A0 (bs ys) rfl rfl 73 _ r2 128 size73 (by rw [bs_size, zs_length]) (by rw [bs_size]; exact HW.out.1) (bs_one ys) ?_))
  generalize W1.setRow A0 (bs ys) = W2 at r3 b3 ⊢
  refine bodyPost_ret (ret_cell2 rfl _ _ A0 73 (bs ys) _ (.bool b) rfl rfl r3 Try.underlying73 rfl (by rw [size73, bs_size, HW.out.1])) rfl ?_
  exact ⟨rfl, b3⟩
end Go.Proofs.Ytmnbfcmamhinbab.Ws
