/-
  Proved here: a Read of no set; an Op as a value that came in.
-/
import Derived.Test.YtmnbfcmamhinbacWsz
import Derived.SizedLaws
import Derived.Deep.Grids
import Derived.Deep.Slices
import Derived.Lib.SmallJoins
import Derived.Carry
namespace Go.Proofs.Ytmnbfcmamhinbac.Ws
open Go.ChangeShapes Go.WideShapes Go.ChangeAt Go.RowKit
open Go.Deep Go.Maps
set_option linter.unusedVariables false
set_option linter.unusedSimpArgs false
set_option maxRecDepth 20000

set_option maxHeartbeats 1000000 in
theorem read_nil (w : World) (k : Int) :
    Calls Try.prog 4 #[.pointer none, .int .u16 k] w fun e w' => e = .returned (.tuple #[.agg (bs (nowP (zs 128))), .bool false]) ∧ Below w.heap.size w w' := by
  have HW : Hid (Wr (zs 128)) := zs_wr
  have hz := zero24
  have hz2 := zero38
  have ab : Below w.heap.size w (w.alloc (.cells (bs (zs 64)) 24)) := (Below.refl _ _).alloc (Nat.le_refl _) _
  have r0 : Row (w.alloc (.cells (bs (zs 64)) 24)) w.heap.size (bs (zs 64)) 24 := Row.new _ _ _
  have hf := find_nil (w.alloc (.cells (bs (zs 64)) 24)) k
  obtain ⟨ys, HY⟩ : ∃ ys, Hid (zs 128 = ys) := ⟨_, rfl⟩
  rw [HY.out] at hf HW ⊢
  obtain ⟨A0, HA0⟩ : ∃ A0, Hid (w.heap.size = A0) := ⟨_, rfl⟩
  have hwl := HW.out.1
  have ts : Hid (1 = 1) := rfl
  go_enter Try.func4, Try.ntmps4
  go_upto_region 2 with (first
    | (go_at_call 9; refine hf.mono ?_; clear hf; rintro e w1 ⟨he, b1⟩; obtain rfl := he; have r1 := r0.below b1 r0.lt; have rb1 := ab.trans (b1.mono ab.size); clear b1 r0 ab; have rA : Row (w1.alloc (.cells (bs (zs 128)) 38)) w1.heap.size (bs (zs 128)) 38 := Row.new _ _ _; have rB : Row ((w1.alloc (.cells (bs (zs 128)) 38)).setRow w1.heap.size (bs ys)) w1.heap.size (bs ys) 38 := rA.set _; have r2 : Row ((w1.alloc (.cells (bs (zs 128)) 38)).setRow w1.heap.size (bs ys)) w.heap.size (bs (zs 64)) 24 := (r1.alloc _).other (by have := r1.lt; omega) _; have b2 : Below w.heap.size w ((w1.alloc (.cells (bs (zs 128)) 38)).setRow w1.heap.size (bs ys)) := below_setRow (rb1.alloc rb1.size _) rb1.size _; clear r1 rb1)
    | (have hh := ts; clear hh ts; refine store_cells rfl 38 (.tmp 6) (.tmp 12) rfl w1.heap.size (bs ys) rfl rfl 38 _ rA 128 size38 (by rw [bs_size, zs_length]) (by rw [bs_size]; exact hwl) (bs_one ys) ?_))
  clear rA hz hz2
  generalize (w1.alloc (.cells (bs (zs 128)) 38)).setRow w1.heap.size (bs ys) = W1 at rB r2 b2 ⊢
  generalize w1.heap.size = A1 at rB ⊢
  rw [HA0.out] at r2 ⊢
  have r3 : Row (W1.setRow A0 (bs (nowP ys))) A0 (bs (nowP ys)) 24 := r2.set _
  have b3 : Below w.heap.size w (W1.setRow A0 (bs (nowP ys))) := below_setRow b2 (by rw [HA0.out]; exact Nat.le_refl _) _
  have HNL : Hid ((nowP ys).length = 64) := by show _ = _; unfold nowP; rw [List.length_take, List.length_drop]; omega
  have tl : Hid (1 = 1) := rfl
  have ts : Hid (1 = 1) := rfl
  go_wp2_with (first
    | (have hh := tl; clear hh tl; refine load_part rfl (.tmp 14) rfl A1 64 rfl ys 38 rB (by omega) ?_)
    | (have hh := ts; clear hh ts; refine store_cells rfl 24 (.tmp 4) (.tmp 15) rfl A0 (bs (nowP ys)) rfl rfl 24 _ r2 64 size24 (by rw [bs_size, zs_length]) (by rw [bs_size]; exact HNL.out) (bs_one _) ?_))
  generalize W1.setRow A0 (bs (nowP ys)) = W2 at r3 b3 ⊢
  refine bodyPost_ret (ret_cell2 rfl _ _ A0 24 (bs (nowP ys)) _ (.bool false) rfl rfl r3 Try.underlying24 rfl (by rw [size24, bs_size, HNL.out])) rfl ?_
  exact ⟨rfl, b3⟩

def opL (pg : Int) (b : List Int) (off : Int) (t : ByteArray) : List Value := .int .u16 pg :: (b.map (Value.int .u8) ++ [.int .i64 off, .string t])
def opA (pg : Int) (b : List Int) (off : Int) (t : ByteArray) : Array Value := (opL pg b off t).toArray
theorem laidOut : laidOutB Try.prog = true := by kernel_rfl
theorem cells26 : Try.prog.cellsOf 26 = 67 := by kernel_rfl
theorem cells22 : Try.prog.cellsOf 22 = 1 := by kernel_rfl
theorem cells24 : Try.prog.cellsOf 24 = 64 := by kernel_rfl
theorem cells3 : Try.prog.cellsOf 3 = 1 := by kernel_rfl
theorem cells9 : Try.prog.cellsOf 9 = 1 := by kernel_rfl
theorem cells5' : Try.prog.cellsOf 5 = 1 := by kernel_rfl
section
variable {H : Type} {enc : TypeId × Value → H}
theorem list_choose' {n : Nat} {p : Nat → Int → Prop} (h : ∀ i, i < n → ∃ x, p i x) : ∃ ys : List Int, ys.length = n ∧ ∀ i, i < n → p i (ys.getD i 0) := by
  induction n with
  | zero => exact ⟨[], rfl, fun i hi => by omega⟩
  | succ n ih =>
    obtain ⟨ys, hl, hy⟩ := ih (fun i hi => h i (by omega))
    obtain ⟨x, hx⟩ := h n (by omega)
    refine ⟨ys ++ [x], by simp [hl], fun i hi => ?_⟩
    by_cases e : i < n
    · have := hy i e
      simp only [List.getD] at this ⊢
      rw [List.getElem?_append_left (by omega)]; exact this
    · have e : i = n := by omega
      subst e
      simp only [List.getD]
      rw [List.getElem?_append_right (by omega), hl]; simpa using hx
theorem open_list' {P : Program} {w : World} {base : Nat} {spare : Nat → Bool} {held : Bool} {fuel n : Nat} {t e : TypeId} {cs : List Value} {x : DataW H × List MemPlace} (ht : P.underlying t = some (.array n e)) (he : P.underlying e = some (.int .u8)) (hc : P.cellsOf e = 1) (hl : cs.length = n)
    (hf : DataW.trod enc P w base spare held fuel t cs = some x) : ∃ ys : List Int, cs = ys.map (Value.int .u8) ∧ ys.length = n ∧ Bytes ys := by
  obtain ⟨xs, m, hfu, hx, hlx, hn, hall⟩ := DataW.trod_array ht hf
  have hstep : ∀ i, i < n → ∃ z, cs[i]? = some (.int .u8 z) ∧ (Lit.int .u8 z).wf = true := by
    intro i hi
    have h1 := hall i hi
    obtain ⟨b, hb⟩ : ∃ b, xs[i]? = some b := ⟨xs[i]'(by omega), List.getElem?_eq_getElem (by omega)⟩
    rw [hb, hc] at h1
    obtain ⟨z, hcz, rfl, hw⟩ := DataW.trod_int he h1
    refine ⟨z, ?_, hw⟩
    have := congrArg (·[0]?) hcz
    simpa [List.getElem?_take, List.getElem?_drop, Value.cells] using this
  obtain ⟨ys, hyl, hy⟩ := list_choose' hstep
  refine ⟨ys, ?_, hyl, ?_⟩
  · apply List.ext_getElem?
    intro i
    by_cases hi : i < n
    · rw [(hy i hi).1, List.getElem?_map, List.getElem?_eq_getElem (by omega)]
      simp [List.getD, show i < ys.length by omega]
    · rw [List.getElem?_eq_none (by omega), List.getElem?_eq_none (by simp; omega)]
  · intro y hy'
    obtain ⟨i, hi, rfl⟩ := List.getElem_of_mem hy'
    have := bounds_u8 (hy i (by omega)).2
    simpa [List.getD, hi] using this
theorem open_opv {w : World} {base : Nat} {v : Value} {d : DataW H} {p : List MemPlace} (hv : Value.okWide Try.prog w .any base 26 v) (h : DataW.Trod enc Try.prog w 0 (fun _ => true) true 26 v d p) :
    ∃ (pg : Int) (b : List Int) (off : Int) (t : ByteArray), v = .agg (opA pg b off t) ∧ b.length = 64 := by
  obtain ⟨cs, rfl, hsz⟩ := okWide_struct Try.underlying26 hv
  obtain ⟨fuel, hf⟩ := h
  have hf' : DataW.trod enc Try.prog w 0 (fun _ => true) true fuel 26 cs.toList = some (d, p) := hf
  have hc : ∃ (pg : Int) (b : List Int) (off : Int) (t : ByteArray), cs.toList = opL pg b off t ∧ b.length = 64 := by
    generalize cs.toList = l at hf'
    cases fuel with
    | zero => simp [DataW.trod] at hf'
    | succ n =>
      unfold DataW.trod at hf'
      rw [Try.underlying26] at hf'
      simp only [cells26] at hf'
      by_cases hl : l.length = 67
      · match l, hl with
        | c0 :: rest, hl =>
          have hr : rest.length = 66 := by simpa using hl
          simp [List.mapM_cons, cells22, cells24, cells3, cells9, hr] at hf'
          cases t0 : DataW.trod enc Try.prog w 0 (fun _ => true) true n 22 [c0] with
          | none => simp [t0] at hf'
          | some x0 =>
          cases t1 : DataW.trod enc Try.prog w 0 (fun _ => true) true n 24 (rest.take 64) with
          | none => simp [t0, t1] at hf'
          | some x1 =>
          cases t2 : DataW.trod enc Try.prog w 0 (fun _ => true) true n 3 ((rest.drop 64).take 1) with
          | none => simp [t0, t1, t2] at hf'
          | some x2 =>
          cases t3 : DataW.trod enc Try.prog w 0 (fun _ => true) true n 9 ((rest.drop 65).take 1) with
          | none => simp [t0, t1, t2, t3] at hf'
          | some x3 =>
          obtain ⟨k0, e0, _, _⟩ := DataW.trod_int Try.underlying22 t0
          obtain ⟨ys, e1, hyl, _⟩ := open_list' Try.underlying24 Try.underlying5 cells5' (by rw [List.length_take]; omega) t1
          obtain ⟨k2, e2, _, _⟩ := DataW.trod_int Try.underlying3 t2
          obtain ⟨k3, e3, _⟩ := DataW.trod_string Try.underlying9 t3
          simp at e0
          refine ⟨k0, ys, k2, k3, ?_, hyl⟩
          unfold opL
          rw [e0, ← e1]
          congr 1
          have s1 : rest = rest.take 64 ++ rest.drop 64 := (List.take_append_drop 64 rest).symm
          have s2 : rest.drop 64 = (rest.drop 64).take 1 ++ rest.drop 65 := by
            have := (List.take_append_drop 1 (rest.drop 64)).symm
            rw [List.drop_drop] at this
            exact this
          have s3 : rest.drop 65 = (rest.drop 65).take 1 := (List.take_of_length_le (by rw [List.length_drop]; omega)).symm
          have e2' : (rest.drop 64).take 1 = [.int .i64 k2] := by simpa [Value.cells] using e2
          have e3' : (rest.drop 65).take 1 = [.string k3] := by simpa [Value.cells] using e3
          conv => lhs; rw [s1, s2, e2', s3, e3']
          simp
      · simp [hl] at hf'
  obtain ⟨pg, b, off, t, h1, h2⟩ := hc
  refine ⟨pg, b, off, t, ?_, h2⟩
  unfold opA
  rw [← h1]
end
end Go.Proofs.Ytmnbfcmamhinbac.Ws
