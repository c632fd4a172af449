/-
  Proved here: rec.May: whether there may be such a record.
-/
import Derived.Test.YtihjapfgllokgabOwn
namespace Go.Proofs.Ytihjapfgllokgab
open Go.ChangeShapes Go.WideShapes Go.ChangeAt Go.RowKit
set_option linter.unusedVariables false
set_option linter.unusedSimpArgs false
set_option maxRecDepth 20000

/-- Whether there may be such a record. -/
def mayR (r : R) : Bool := okK r && (decide (r = ownR r) && (decide (r.delta.size ≤ 66) && decide (r.old.delta.size ≤ 66)))
set_option maxRecDepth 20000 in
set_option maxHeartbeats 4000000 in
theorem mayr_any (r : R) (w : World) (hf : r.Fits) :
    Calls Try.prog 23 #[.agg r.arr] w fun e w' => e = .returned (.bool (mayR r)) ∧ Below w.heap.size w w' := by
  have hz := zero37
  have hs1 := R.arr_size r hf.len
  have hs2 := R.arr_size (ownR r) (ownR_img r hf.len)
  have HOW : Hid _ := fun w => own_any r w hf.len
  have heq := fun w => equal37 r (ownR r) hf.len (ownR_img r hf.len) w
  have hd1 := hf.delta
  have hd2 := hf.odelta
  unfold maxLen at hd1 hd2
  have r1 : Row (w.alloc (.cells r.arr 37)) w.heap.size r.arr 37 := Row.new _ _ _
  have ab : Below w.heap.size w (w.alloc (.cells r.arr 37)) := (Below.refl _ _).alloc (Nat.le_refl _) _
  go_enter Try.func23, Try.ntmps23
  go_upto_region 1 with fail
  generalize w.alloc (.cells r.arr 37) = w1 at r1 ab ⊢
  go_upto_region 2 with (first
    | (refine load_cells rfl 37 (.tmp 1) rfl w.heap.size rfl 37 r.arr r1 238 Try.underlying37 rfl size37 hs1 ?_)
    | (go_at_call 42; refine (HOW.out _).mono ?_; clear HOW; rintro e w3 ⟨rfl, h3⟩
       have b1 := (r1.below h3 r1.lt).alloc (.cells R.zero.arr 37)
       have b3 : Row (w3.alloc (.cells R.zero.arr 37)) w3.heap.size R.zero.arr 37 := Row.new _ _ _
       have bb0 : Below w.heap.size w w3 := ab.trans (h3.mono ab.size)
       have bb : Below w.heap.size w (w3.alloc (.cells R.zero.arr 37)) := bb0.alloc bb0.size _
       have hl3 : w.heap.size < w3.heap.size := (r1.below h3 r1.lt).lt)
    | (refine store_cells rfl 37 (.tmp 3) (.tmp 8) rfl w3.heap.size (ownR r).arr rfl rfl 37 _ b3 238 size37 (R.arr_size _ (zs_length _)) hs2 (R.arr_one _) ?_))
  have y1 := b1.other (g := w3.heap.size) (by omega) (ownR r).arr
  have y3 := b3.set (ownR r).arr
  have yb := below_setRow bb bb0.size (ownR r).arr
  clear r1 ab b1 b3 bb bb0 h3
  generalize (w3.alloc (.cells R.zero.arr 37)).setRow w3.heap.size (ownR r).arr = W at y1 y3 yb ⊢
  generalize w3.heap.size = g3 at y1 y3 hl3 ⊢
  have c5 := row_at y1 230 _ (R.atT r hf.len 3)
  have c7 := row_at y1 237 _ (R.atT r hf.len 10)
  cases hk : okK r with
  | false =>
    have HM : Hid (mayR r = false) := by show _ = _; unfold mayR; rw [hk]; rfl
    go_wp2_with (first
      | (refine load_cells_g rfl 37 (.tmp 1) rfl w.heap.size rfl 37 r.arr y1 238 Try.underlying37 rfl size37 hs1 ?_)
      | (refine load_cells_g rfl 37 (.tmp 3) rfl g3 rfl 37 (ownR r).arr y3 238 Try.underlying37 rfl size37 hs2 ?_))
    go_ret
    exact ⟨by rw [HM.out]; rfl, yb⟩
  | true =>
    by_cases hq : r = ownR r
    · rw [decide_eq_true hq] at heq
      by_cases hd : r.delta.size ≤ 66
      · have hd' : (r.delta.size : Int) ≤ 66 := by omega
        by_cases ho : r.old.delta.size ≤ 66
        · have ho' : (r.old.delta.size : Int) ≤ 66 := by omega
          have HM : Hid (mayR r = true) := by show _ = _; unfold mayR; rw [hk, decide_eq_true hq, decide_eq_true hd, decide_eq_true ho]; rfl
          clear hq
          go_wp2_with (first
            | (refine load_cells_g rfl 37 (.tmp 1) rfl w.heap.size rfl 37 r.arr y1 238 Try.underlying37 rfl size37 hs1 ?_)
            | (refine load_cells_g rfl 37 (.tmp 3) rfl g3 rfl 37 (ownR r).arr y3 238 Try.underlying37 rfl size37 hs2 ?_))
          go_ret
          exact ⟨by rw [HM.out]; rfl, yb⟩
        · have ho' : ¬ (r.old.delta.size : Int) ≤ 66 := by omega
          have HM : Hid (mayR r = false) := by show _ = _; unfold mayR; rw [decide_eq_false ho]; simp
          clear hq
          go_wp2_with (first
            | (refine load_cells_g rfl 37 (.tmp 1) rfl w.heap.size rfl 37 r.arr y1 238 Try.underlying37 rfl size37 hs1 ?_)
            | (refine load_cells_g rfl 37 (.tmp 3) rfl g3 rfl 37 (ownR r).arr y3 238 Try.underlying37 rfl size37 hs2 ?_))
          go_ret
          exact ⟨by rw [HM.out]; rfl, yb⟩
      · have hd' : ¬ (r.delta.size : Int) ≤ 66 := by omega
        have HM : Hid (mayR r = false) := by show _ = _; unfold mayR; rw [decide_eq_false hd]; simp
        clear hq
        go_wp2_with (first
          | (refine load_cells_g rfl 37 (.tmp 1) rfl w.heap.size rfl 37 r.arr y1 238 Try.underlying37 rfl size37 hs1 ?_)
          | (refine load_cells_g rfl 37 (.tmp 3) rfl g3 rfl 37 (ownR r).arr y3 238 Try.underlying37 rfl size37 hs2 ?_))
        go_ret
        exact ⟨by rw [HM.out]; rfl, yb⟩
    · rw [decide_eq_false hq] at heq
      have HM : Hid (mayR r = false) := by show _ = _; unfold mayR; rw [decide_eq_false hq]; simp
      clear hq
      go_wp2_with (first
        | (refine load_cells_g rfl 37 (.tmp 1) rfl w.heap.size rfl 37 r.arr y1 238 Try.underlying37 rfl size37 hs1 ?_)
        | (refine load_cells_g rfl 37 (.tmp 3) rfl g3 rfl 37 (ownR r).arr y3 238 Try.underlying37 rfl size37 hs2 ?_))
      go_ret
      exact ⟨by rw [HM.out]; rfl, yb⟩
end Go.Proofs.Ytihjapfgllokgab
