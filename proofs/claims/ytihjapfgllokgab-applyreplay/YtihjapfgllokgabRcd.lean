/-
  Records as values: their 238 cells, and how they are held against one another.
-/
import Derived.Test.YtihjapfgllokgabQMh
import Derived.Test.YtihjapfgllokgabGetU
import Derived.Test.YtihjapfgllokgabAdd
import Derived.Deep.MidRow
namespace Go.Proofs.Ytihjapfgllokgab
open Go.ChangeShapes Go.WideShapes Go.ChangeAt Go.RowKit
set_option linter.unusedVariables false
set_option linter.unusedSimpArgs false
set_option maxRecDepth 20000

deriving instance DecidableEq for O
/-- A record. -/
structure R where
  kind : Int
  undo : Bool
  no : Int
  img : List Int
  ts : Int
  pp : Int
  ps : Int
  delta : ByteArray
  slot : Int
  old : O
deriving DecidableEq
def R.tail (r : R) : List Value := [.int .u32 r.ts, .int .u16 r.pp, .int .u8 r.ps, .string r.delta, .int .u8 r.slot, .bool r.old.live, .int .u16 r.old.page, .int .u32 r.old.ts, .int .u16 r.old.np, .int .u8 r.old.ns, .string r.old.delta]
def R.cells (r : R) : List Value := .int .u8 r.kind :: .bool r.undo :: .int .u16 r.no :: (r.img.map (Value.int .u8) ++ r.tail)
def R.arr (r : R) : Array Value := r.cells.toArray
structure R.Fits (r : R) : Prop where
  kind : 0 ≤ r.kind ∧ r.kind ≤ 255
  no : 0 ≤ r.no ∧ r.no ≤ 65535
  len : r.img.length = 224
  img : Bytes r.img
  ts : 0 ≤ r.ts ∧ r.ts ≤ 4294967295
  pp : 0 ≤ r.pp ∧ r.pp ≤ 65535
  ps : 0 ≤ r.ps ∧ r.ps ≤ 255
  slot : 0 ≤ r.slot ∧ r.slot ≤ 255
  delta : r.delta.size ≤ maxLen
  old : r.old.Fits
  odelta : r.old.delta.size ≤ maxLen
def R.zero : R := ⟨0, false, 0, zs 224, 0, 0, 0, ByteArray.empty, 0, O.zero⟩
theorem R.zero_fits : R.zero.Fits := ⟨by decide, by decide, zs_length _, zs_bytes _, by decide, by decide, by decide, by decide, Nat.zero_le _, ⟨by decide, by decide, by decide, by decide⟩, Nat.zero_le _⟩
theorem R.cells_length (r : R) (h : r.img.length = 224) : r.cells.length = 238 := by simp [R.cells, R.tail, h]
theorem R.arr_size (r : R) (h : r.img.length = 224) : r.arr.size = 238 := by simp [R.arr, R.cells_length r h]
theorem R.arr_one (r : R) : r.arr.all (·.oneCell') = true := by simp [R.arr, R.cells, R.tail, Value.oneCell']
theorem R.at0 (r : R) : r.arr[0]? = some (.int .u8 r.kind) := by simp [R.arr, R.cells]
theorem R.at1 (r : R) : r.arr[1]? = some (.bool r.undo) := by simp [R.arr, R.cells]
theorem R.at2 (r : R) : r.arr[2]? = some (.int .u16 r.no) := by simp [R.arr, R.cells]
theorem R.atT (r : R) (h : r.img.length = 224) (i : Nat) : r.arr[227 + i]? = r.tail[i]? := by
  have e : r.cells = ([.int .u8 r.kind, .bool r.undo, .int .u16 r.no] ++ r.img.map (Value.int .u8)) ++ r.tail := by simp [R.cells]
  unfold R.arr
  rw [List.getElem?_toArray, e, List.getElem?_append_right (by simp [h])]
  simp [h]
theorem R.atI (r : R) (h : r.img.length = 224) (i : Nat) (hi : i < 224) : r.arr[3 + i]? = some (.int .u8 (r.img.getD i 0)) := by
  have e : r.cells = [.int .u8 r.kind, .bool r.undo, .int .u16 r.no] ++ (r.img.map (Value.int .u8) ++ r.tail) := by simp [R.cells]
  unfold R.arr
  rw [List.getElem?_toArray, e, List.getElem?_append_right (by simp), List.getElem?_append_left (by simp [h]; omega)]
  simp [List.getD, h, hi]
theorem size37 : (Try.prog.info? 37).map (·.size) = some 238 := by kernel_rfl
theorem zero37 (w : World) : (zeroValue 37).run Try.prog w = .ok (.agg R.zero.arr) w := (zero_of_info (P := Try.prog) (t := 37) (v := .agg R.zero.arr) (n := 238) (by kernel_rfl)).1 w
theorem built37 : (Try.prog.built 37 []) = some R.zero.arr := by kernel_rfl
theorem built33one (k : Int) : (Try.prog.built 37 [(0, .int .u8 k)]) = some ({ R.zero with kind := k } : R).arr := by kernel_rfl
theorem built33two (k t : Int) : (Try.prog.built 37 [(0, .int .u8 k), (3, .int .u32 t)]) = some ({ R.zero with kind := k, ts := t } : R).arr := by kernel_rfl
theorem str_eq (a b : ByteArray) : (a.toList == b.toList) = decide (a = b) := by
  by_cases h : a = b
  · subst h; simp
  · rw [decide_eq_false h]; simpa using fun q => h (bytes_inj q)
theorem R.t0 (r : R) (h : r.img.length = 224) : (r.img.map (Value.int .u8) ++ r.tail)[224]? = some (.int .u32 r.ts) := by rw [List.getElem?_append_right (by simp [h])]; simp [h, R.tail]
theorem R.t1 (r : R) (h : r.img.length = 224) : (r.img.map (Value.int .u8) ++ r.tail)[225]? = some (.int .u16 r.pp) := by rw [List.getElem?_append_right (by simp [h])]; simp [h, R.tail]
theorem R.t2 (r : R) (h : r.img.length = 224) : (r.img.map (Value.int .u8) ++ r.tail)[226]? = some (.int .u8 r.ps) := by rw [List.getElem?_append_right (by simp [h])]; simp [h, R.tail]
theorem R.t3 (r : R) (h : r.img.length = 224) : (r.img.map (Value.int .u8) ++ r.tail)[227]? = some (.string r.delta) := by rw [List.getElem?_append_right (by simp [h])]; simp [h, R.tail]
theorem R.t4 (r : R) (h : r.img.length = 224) : (r.img.map (Value.int .u8) ++ r.tail)[228]? = some (.int .u8 r.slot) := by rw [List.getElem?_append_right (by simp [h])]; simp [h, R.tail]
theorem R.t5 (r : R) (h : r.img.length = 224) : (r.img.map (Value.int .u8) ++ r.tail)[229]? = some (.bool r.old.live) := by rw [List.getElem?_append_right (by simp [h])]; simp [h, R.tail]
theorem R.t6 (r : R) (h : r.img.length = 224) : (r.img.map (Value.int .u8) ++ r.tail)[230]? = some (.int .u16 r.old.page) := by rw [List.getElem?_append_right (by simp [h])]; simp [h, R.tail]
theorem R.t7 (r : R) (h : r.img.length = 224) : (r.img.map (Value.int .u8) ++ r.tail)[231]? = some (.int .u32 r.old.ts) := by rw [List.getElem?_append_right (by simp [h])]; simp [h, R.tail]
theorem R.t8 (r : R) (h : r.img.length = 224) : (r.img.map (Value.int .u8) ++ r.tail)[232]? = some (.int .u16 r.old.np) := by rw [List.getElem?_append_right (by simp [h])]; simp [h, R.tail]
theorem R.t9 (r : R) (h : r.img.length = 224) : (r.img.map (Value.int .u8) ++ r.tail)[233]? = some (.int .u8 r.old.ns) := by rw [List.getElem?_append_right (by simp [h])]; simp [h, R.tail]
theorem R.t10 (r : R) (h : r.img.length = 224) : (r.img.map (Value.int .u8) ++ r.tail)[234]? = some (.string r.old.delta) := by rw [List.getElem?_append_right (by simp [h])]; simp [h, R.tail]
theorem equal_bytes9 {P : Program} (t e : TypeId) (n : Nat) (hu : P.underlying t = some (.array n e)) (he : P.underlying e = some (.int .u8)) (hs : (P.info? e).map (·.size) = some 1) (hc : P.cellsOf e = 1)
    (xs ys : List Int) (hx : xs.length = n) (hy : ys.length = n) (w : World) : (Op.equalIn 9999 t (.agg (bs xs)) (.agg (bs ys))).run P w = .ok (decide (xs = ys)) w := by
  cases hq : P.info? e with
  | none => simp [hq] at hs
  | some inf =>
    have h1 := run_equalIn_array (P := P) (w := w) 9998 (bs xs) (bs ys) hu hq
    have h2 := eqItems_bytes (P := P) 9997 e he hs hc xs ys w (List.range n) (fun i hi => by have := List.mem_range.1 hi; omega)
    rw [all_range xs ys n hx hy] at h2
    exact h1.trans h2
set_option maxRecDepth 20000 in
set_option maxHeartbeats 4000000 in
theorem equal37 (a b : R) (ha : a.img.length = 224) (hb : b.img.length = 224) (w : World) : (Op.equalIn 10000 37 (.agg a.arr) (.agg b.arr)).run Try.prog w = .ok (decide (a = b)) w := by
  have h26 := equal_bytes9 26 5 224 Try.underlying26 Try.underlying5 (by kernel_rfl) (by kernel_rfl) a.img b.img ha hb
  have a0 := R.t0 a ha
  have b0 := R.t0 b hb
  have a1 := R.t1 a ha
  have b1 := R.t1 b hb
  have a2 := R.t2 a ha
  have b2 := R.t2 b hb
  have a3 := R.t3 a ha
  have b3 := R.t3 b hb
  have a4 := R.t4 a ha
  have b4 := R.t4 b hb
  have a5 := R.t5 a ha
  have b5 := R.t5 b hb
  have a6 := R.t6 a ha
  have b6 := R.t6 b hb
  have a7 := R.t7 a ha
  have b7 := R.t7 b hb
  have a8 := R.t8 a ha
  have b8 := R.t8 b hb
  have a9 := R.t9 a ha
  have b9 := R.t9 b hb
  have a10 := R.t10 a ha
  have b10 := R.t10 b hb
  unfold R.arr
  unfold R.cells
  unfold bs at h26
  obtain ⟨kind, undo, no, img, ts, pp, ps, delta, slot, ol, op, ot, onp, ons, od⟩ := a
  obtain ⟨kind', undo', no', img', ts', pp', ps', delta', slot', ol', op', ot', onp', ons', od'⟩ := b
  simp only at *
  go_simp
  have e1 : (delta.toList = delta'.toList) = (delta = delta') := propext ⟨bytes_inj, congrArg _⟩
  have e2 : (od.toList = od'.toList) = (od = od') := propext ⟨bytes_inj, congrArg _⟩
  simp only [e1, e2]
  by_cases q : kind = kind'
  rotate_left
  · rw [if_neg q, decide_eq_false q]; simp
  rw [if_pos q, decide_eq_true q, Bool.true_and]
  clear q
  by_cases q : undo = undo'
  rotate_left
  · rw [if_neg q, decide_eq_false q]; simp
  rw [if_pos q, decide_eq_true q, Bool.true_and]
  clear q
  by_cases q : no = no'
  rotate_left
  · rw [if_neg q, decide_eq_false q]; simp
  rw [if_pos q, decide_eq_true q, Bool.true_and]
  clear q
  by_cases q : img = img'
  rotate_left
  · rw [if_neg q, decide_eq_false q]; simp
  rw [if_pos q, decide_eq_true q, Bool.true_and]
  clear q
  by_cases q : ts = ts'
  rotate_left
  · rw [if_neg q, decide_eq_false q]; simp
  rw [if_pos q, decide_eq_true q, Bool.true_and]
  clear q
  by_cases q : pp = pp'
  rotate_left
  · rw [if_neg q, decide_eq_false q]; simp
  rw [if_pos q, decide_eq_true q, Bool.true_and]
  clear q
  by_cases q : ps = ps'
  rotate_left
  · rw [if_neg q, decide_eq_false q]; simp
  rw [if_pos q, decide_eq_true q, Bool.true_and]
  clear q
  by_cases q : delta = delta'
  rotate_left
  · rw [if_neg q, decide_eq_false q]; simp
  rw [if_pos q, decide_eq_true q, Bool.true_and]
  clear q
  by_cases q : slot = slot'
  rotate_left
  · rw [if_neg q, decide_eq_false q]; simp
  rw [if_pos q, decide_eq_true q, Bool.true_and]
  clear q
  by_cases q : ol = ol'
  rotate_left
  · rw [if_neg q, decide_eq_false q]; simp
  rw [if_pos q, decide_eq_true q, Bool.true_and]
  clear q
  by_cases q : op = op'
  rotate_left
  · rw [if_neg q, decide_eq_false q]; simp
  rw [if_pos q, decide_eq_true q, Bool.true_and]
  clear q
  by_cases q : ot = ot'
  rotate_left
  · rw [if_neg q, decide_eq_false q]; simp
  rw [if_pos q, decide_eq_true q, Bool.true_and]
  clear q
  by_cases q : onp = onp'
  rotate_left
  · rw [if_neg q, decide_eq_false q]; simp
  rw [if_pos q, decide_eq_true q, Bool.true_and]
  clear q
  by_cases q : ons = ons'
  rotate_left
  · rw [if_neg q, decide_eq_false q]; simp
  rw [if_pos q, decide_eq_true q, Bool.true_and]
  clear q
  by_cases q : od = od'
  · rw [if_pos q, decide_eq_true q]
  · rw [if_neg q, decide_eq_false q]
end Go.Proofs.Ytihjapfgllokgab
