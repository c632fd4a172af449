/-
  Proved here: what the calls of no set answer.
-/
import Derived.Test.YtmnbfcmamhinbacWsy
namespace Go.Proofs.Ytmnbfcmamhinbac.Ws
open Go.ChangeShapes Go.WideShapes Go.ChangeAt Go.RowKit
open Go.Deep Go.Maps
set_option linter.unusedVariables false
set_option linter.unusedSimpArgs false

theorem built38z : Try.prog.built 38 [] = some (bs (zs 128)) := by kernel_rfl
theorem build_none0 {P : Program} {ops : Array Oper} {rest : List Oper} {o : Oper} {a : Act} {w : World} {Q : Exit → Act → World → Prop} (hg : o.guard = none) (t : TypeId) (ho : o.op = .build t #[]) (cs : Array Value) (hb : P.built t [] = some cs) (h : wpList P ops Q rest (a.put o.dst (.agg cs)) w) : wpList P ops Q (o :: rest) a w :=
  build_parts hg t #[] ho [] rfl cs hb h
set_option maxRecDepth 20000 in
theorem find_nil (w : World) (k : Int) : Calls Try.prog 9 #[.pointer none, .int .u16 k] w fun e w' => e = .returned (.tuple #[.agg (bs (zs 128)), .bool false]) ∧ Below w.heap.size w w' := by
  have hz := zero38
  have hzs : (bs (zs 128)).size = 128 := by rw [bs_size, zs_length]
  have ab : Below w.heap.size w (w.alloc (.cells (bs (zs 128)) 38)) := (Below.refl _ _).alloc (Nat.le_refl _) _
  have r0 : Row (w.alloc (.cells (bs (zs 128)) 38)) w.heap.size (bs (zs 128)) 38 := Row.new _ _ _
  have r1 := r0.set (bs (zs 128))
  have b1 := below_setRow ab (Nat.le_refl _) (bs (zs 128))
  have HBU : Hid _ := built38z
  have hon := bs_one (zs 128)
  generalize bs (zs 128) = ZZ at hz hzs ab r0 r1 b1 HBU hon ⊢
  go_enter Try.func9, Try.ntmps9
  go_wp2_with (first
    | (refine build_none0 rfl 38 rfl _ HBU.out ?_)
    | (refine store_cells rfl 38 (.tmp 4) (.tmp 10) rfl w.heap.size ZZ rfl rfl 38 _ r0 128 size38 hzs hzs hon ?_))
  refine bodyPost_ret (ret_cell2 rfl _ _ w.heap.size 38 ZZ _ (.bool false) rfl rfl r1 Try.underlying38 rfl (by rw [size38, hzs])) rfl ?_
  exact ⟨rfl, b1⟩
theorem pages_nil (w : World) : Calls Try.prog 7 #[.pointer none] w fun e w' => e = .returned (.slice none 0 0) ∧ Below w.heap.size w w' := by
  go_enter Try.func7, Try.ntmps7
  go_wp2
  go_ret
  exact ⟨rfl, Below.refl _ _⟩
theorem write_nil (w : World) (k : Int) (bse : List Int) (off : Int) (t : ByteArray) : Calls Try.prog 5 #[.pointer none, .int .u16 k, .agg (bs bse), .int .i64 off, .string t] w fun e w' => e = .returned (.int .i64 1) ∧ Below w.heap.size w w' := by
  have ab : Below w.heap.size w (w.alloc (.cells (bs bse) 24)) := (Below.refl _ _).alloc (Nat.le_refl _) _
  go_enter Try.func5, Try.ntmps5
  go_wp2
  go_ret
  exact ⟨rfl, ab⟩
set_option maxRecDepth 20000 in
theorem delta_nil (w : World) (k : Int) : Calls Try.prog 6 #[.pointer none, .int .u16 k] w fun e w' => e = .returned (.string ByteArray.empty) ∧ Below w.heap.size w w' := by
  have hz := zero38
  have hf := find_nil w k
  have hzs : (bs (zs 128)).size = 128 := by rw [bs_size, zs_length]
  have hon := bs_one (zs 128)
  generalize bs (zs 128) = ZZ at hz hf hzs hon
  go_enter Try.func6, Try.ntmps6
  go_wp2_with (first
    | (go_at_call 9; refine hf.mono ?_; clear hf; rintro e w1 ⟨he, b1⟩; obtain rfl := he; have rA : Row (w1.alloc (.cells ZZ 38)) w1.heap.size ZZ 38 := Row.new _ _ _; have b2 := below_setRow (b1.alloc b1.size (.cells ZZ 38)) b1.size ZZ)
    | (refine store_cells rfl 38 (.tmp 5) (.tmp 11) rfl w1.heap.size ZZ rfl rfl 38 _ rA 128 size38 hzs hzs hon ?_))
  go_ret
  exact ⟨rfl, b2⟩
end Go.Proofs.Ytmnbfcmamhinbac.Ws
