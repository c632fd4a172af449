/-
  Plain facts on arrays of bytes that are held against each other, and on loads that stand behind a guard.
-/
import Derived.Test.YtdopghiconcjlabArr
import Derived.ChangeKeysEq
namespace Go.Proofs.Ytdopghiconcjlab
open Go.ChangeShapes Go.WideShapes Go.ChangeAt Go.RowKit
set_option linter.unusedVariables false
set_option linter.unusedSimpArgs false

theorem part_byte {P : Program} (e : TypeId) (he : P.underlying e = some (.int .u8)) (hc : P.cellsOf e = 1) (xs : List Int) (w : World) (i : Nat) (hi : i < xs.length) :
    (part e (bs xs) (i * P.cellsOf e)).run P w = .ok (.int .u8 (xs.getD i 0)) w := by
  have hb : (bs xs)[i]? = some (.int .u8 (xs.getD i 0)) := by rw [bs_at]; simp [List.getD, hi]
  simp [part, isAgg, run_underlying he, hc, hb]
theorem eqItems_bytes {P : Program} (d : Nat) (e : TypeId) (he : P.underlying e = some (.int .u8)) (hs : (P.info? e).map (·.size) = some 1) (hc : P.cellsOf e = 1) (xs ys : List Int) (w : World) :
    ∀ is : List Nat, (∀ i ∈ is, i < xs.length ∧ i < ys.length) → (Op.eqItems (d + 1) e (P.cellsOf e) (bs xs) (bs ys) is).run P w = .ok (is.all fun i => xs.getD i 0 == ys.getD i 0) w
  | [], _ => by simp [Op.eqItems]
  | i :: is, h => by
    have hi := h i (by simp)
    have ih := eqItems_bytes d e he hs hc xs ys w is (fun j hj => h j (by simp [hj]))
    have p1 := part_byte e he hc xs w i hi.1
    have p2 := part_byte e he hc ys w i hi.2
    simp only [Op.eqItems, Sem.run_bind, p1, p2, Result.andThen_ok, run_equalIn_int w d e .u8 .u8 _ _ he, Sem.run_ite, Sem.run_pure, ih, List.all_cons]
    cases (xs.getD i 0 == ys.getD i 0) <;> simp
theorem all_range (xs ys : List Int) (n : Nat) (hx : xs.length = n) (hy : ys.length = n) : ((List.range n).all fun i => xs.getD i 0 == ys.getD i 0) = decide (xs = ys) := by
  by_cases h : xs = ys
  · subst h; simp
  · rw [decide_eq_false h]
    rw [Bool.eq_false_iff]
    intro q
    apply h
    apply List.ext_getElem (by omega)
    intro j h1 h2
    have := List.all_eq_true.1 q j (List.mem_range.2 (by omega))
    simpa [List.getD, h1, h2] using this
theorem equal_bytes {P : Program} (t e : TypeId) (n : Nat) (hu : P.underlying t = some (.array n e)) (he : P.underlying e = some (.int .u8)) (hs : (P.info? e).map (·.size) = some 1) (hc : P.cellsOf e = 1)
    (xs ys : List Int) (hx : xs.length = n) (hy : ys.length = n) (w : World) : (Op.equalIn 10000 t (.agg (bs xs)) (.agg (bs ys))).run P w = .ok (decide (xs = ys)) w := by
  cases hq : P.info? e with
  | none => simp [hq] at hs
  | some inf =>
    have h1 := run_equalIn_array (P := P) (w := w) 9999 (bs xs) (bs ys) hu hq
    have h2 := eqItems_bytes (P := P) 9998 e he hs hc xs ys w (List.range n) (fun i hi => by have := List.mem_range.1 hi; omega)
    rw [all_range xs ys n hx hy] at h2
    exact h1.trans h2

theorem load_row_g {P : Program} {ops : Array Oper} {rest : List Oper} {o : Oper} {a : Act} {w : World} {Q : Exit → Act → World → Prop} (hw : Region.wanted o (yielded ops a.tmps) = true) (ty : TypeId) (x : Operand) (ho : o.op = .load ty x)
    (g : Nat) (hx : a.eval x = .pointer (some ⟨g, 0, none⟩)) (t : TypeId) (cs : Array Value) (hg : Row w g cs t) (n : Nat) (e : TypeId)
    (hu : P.underlying ty = some (.array n e)) (hi : (P.info? ty).map (·.size) = some n) (hn : cs.size = n)
    (h : wpList P ops Q rest (a.put o.dst (.agg cs)) w) : wpList P ops Q (o :: rest) a w :=
  BigFrame.wpList_want hw fun _ hK => wp_load_row ty x ho g hx t cs (0, 0) _ hg hu rfl (by rw [hi, hn]) (hK _ _ h)
theorem build_none_g {P : Program} {ops : Array Oper} {rest : List Oper} {o : Oper} {a : Act} {w : World} {Q : Exit → Act → World → Prop} (hw : Region.wanted o (yielded ops a.tmps) = true) (t : TypeId) (ho : o.op = .build t #[]) (cs : Array Value)
    (hb : P.built t [] = some cs) (h : wpList P ops Q rest (a.put o.dst (.agg cs)) w) : wpList P ops Q (o :: rest) a w :=
  BigFrame.wpList_want hw fun _ hK => wp_build t #[] ho (by simp [hb]) (hK _ _ (by simpa [hb] using h))
theorem cells5 : Try.prog.cellsOf 5 = 1 := by kernel_rfl
theorem equal29 (xs ys : List Int) (hx : xs.length = 224) (hy : ys.length = 224) (w : World) : (Op.equalIn 10000 29 (.agg (bs xs)) (.agg (bs ys))).run Try.prog w = .ok (decide (xs = ys)) w :=
  equal_bytes 29 5 224 Try.underlying29 Try.underlying5 size5 cells5 xs ys hx hy w
theorem equal31 (xs ys : List Int) (hx : xs.length = 256) (hy : ys.length = 256) (w : World) : (Op.equalIn 10000 31 (.agg (bs xs)) (.agg (bs ys))).run Try.prog w = .ok (decide (xs = ys)) w :=
  equal_bytes 31 5 256 Try.underlying31 Try.underlying5 size5 cells5 xs ys hx hy w
theorem equal30 (xs ys : List Int) (hx : xs.length = 256) (hy : ys.length = 256) (w : World) : (Op.equalIn 10000 30 (.agg (bs xs)) (.agg (bs ys))).run Try.prog w = .ok (decide (xs = ys)) w :=
  equal_bytes 30 5 256 Try.underlying30 Try.underlying5 size5 cells5 xs ys hx hy w
theorem equal40 (xs ys : List Int) (hx : xs.length = 64) (hy : ys.length = 64) (w : World) : (Op.equalIn 10000 40 (.agg (bs xs)) (.agg (bs ys))).run Try.prog w = .ok (decide (xs = ys)) w :=
  equal_bytes 40 5 64 Try.underlying40 Try.underlying5 size5 cells5 xs ys hx hy w
end Go.Proofs.Ytdopghiconcjlab
