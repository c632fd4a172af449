/-
  Proved here: rec.own: a record with those fields alone that its kind has.
-/
import Derived.Test.YtihjapfgllokgabRcd
import Derived.Laws.AppendOwnNone
import Derived.Maps.AppendAt
import Derived.Deep.CutBlock
import Derived.Deep.CutRange
import Derived.Great.BuildSlice
import Derived.Laws.Cover3
namespace Go.Proofs.Ytihjapfgllokgab
open Go.ChangeShapes Go.WideShapes Go.ChangeAt Go.RowKit
set_option linter.unusedVariables false
set_option linter.unusedSimpArgs false
set_option maxRecDepth 20000

theorem build_parts {P : Program} {ops : Array Oper} {rest : List Oper} {o : Oper} {a : Act} {w : World} {Q : Exit → Act → World → Prop} (hg : o.guard = none) (t : TypeId) (parts : Array (Nat × Operand)) (ho : o.op = .build t parts)
    (vs : List (Nat × Value)) (hv : (parts.toList.map fun (i, x) => (i, a.eval x)) = vs) (cs : Array Value) (hb : P.built t vs = some cs) (h : wpList P ops Q rest (a.put o.dst (.agg cs)) w) : wpList P ops Q (o :: rest) a w := by
  have e : (parts.map fun (i, x) => (i, a.eval x)).toList = vs := by rw [← hv, Array.toList_map]
  exact wpList_build hg t parts ho (by rw [e, hb]; rfl) (by rw [e, hb]; exact h)
/-- Cells that follow one another, set. -/
def setAll (cs : Array Value) (o : Nat) : List Value → Array Value
  | [] => cs
  | v :: vs => setAll (cs.setIfInBounds o v) (o + 1) vs
theorem there_row {w : World} {g : Nat} {cs : Array Value} {t : TypeId} {n o m : Nat} (h : Row w g cs t) (hs : cs.size = n) (hm : o + m ≤ n) : w.there g o m := fun j hj =>
  ⟨by rw [cell_of_row w g (o + j) _ _ _ h, Array.getElem?_eq_getElem (by rw [hs]; omega)]; rfl, row_frozen h _⟩
theorem row_setCells {w : World} {g : Nat} {cs : Array Value} {t : TypeId} (h : Row w g cs t) : ∀ (vs : List Value) (o : Nat), Row (w.setCells g o vs) g (setAll cs o vs) t
  | [], _ => h
  | v :: vs, o => row_setCells (row_set h o v) vs (o + 1)
theorem row_setCells_other {w : World} {g k : Nat} {cs : Array Value} {t : TypeId} (h : Row w k cs t) (hk : k ≠ g) : ∀ (vs : List Value) (o : Nat), Row (w.setCells g o vs) k cs t
  | [], _ => h
  | v :: vs, o => row_setCells_other (row_setCell_other h hk o v) hk vs (o + 1)
theorem below_setCellsR {B : Nat} {w0 w : World} {g : Nat} (h : Below B w0 w) (hB : B ≤ g) : ∀ (vs : List Value) (o : Nat), Below B w0 (w.setCells g o vs)
  | [], _ => h
  | v :: vs, o => below_setCellsR (h.setCell (p := ⟨g, o, none⟩) hB v) hB vs (o + 1)
theorem setAll_list : ∀ (vs H M T : List Value), M.length = vs.length → setAll (H ++ (M ++ T)).toArray H.length vs = (H ++ (vs ++ T)).toArray
  | [], H, [], T, _ => rfl
  | v :: vs, H, m :: M, T, h => by
    have ih := setAll_list vs (H ++ [v]) M T (by simpa using h)
    have e : ((H ++ (m :: M ++ T)).toArray).setIfInBounds H.length v = ((H ++ [v]) ++ (M ++ T)).toArray := by
      rw [List.setIfInBounds_toArray, List.set_append_right _ _ (Nat.le_refl _)]
      simp
    show setAll (((H ++ (m :: M ++ T)).toArray).setIfInBounds H.length v) (H.length + 1) vs = _
    rw [e]
    have hl : (H ++ [v]).length = H.length + 1 := by simp
    rw [hl] at ih
    rw [ih]
    simp
theorem R.setImg (r : R) (h : r.img.length = 224) (l : List Int) (hl : l.length = 224) : setAll r.arr 3 (l.map (Value.int .u8)) = R.arr { r with img := l } := by
  have := setAll_list (l.map (Value.int .u8)) [.int .u8 r.kind, .bool r.undo, .int .u16 r.no] (r.img.map (Value.int .u8)) r.tail (by simp [h, hl])
  exact this
theorem R.set12 (r : R) (u : Bool) (n : Int) : (r.arr.setIfInBounds 1 (.bool u)).setIfInBounds 2 (.int .u16 n) = R.arr { r with undo := u, no := n } := by simp [R.arr, R.cells, R.tail]
theorem R.set2 (r : R) (n : Int) : r.arr.setIfInBounds 2 (.int .u16 n) = R.arr { r with no := n } := by simp [R.arr, R.cells, R.tail]
theorem R.setT (r : R) (h : r.img.length = 224) (i : Nat) (v : Value) : r.arr.setIfInBounds (227 + i) v = (.int .u8 r.kind :: .bool r.undo :: .int .u16 r.no :: (r.img.map (Value.int .u8) ++ r.tail.set i v)).toArray := by
  unfold R.arr
  rw [List.setIfInBounds_toArray]
  congr 1
  have e : r.cells = ([.int .u8 r.kind, .bool r.undo, .int .u16 r.no] ++ r.img.map (Value.int .u8)) ++ r.tail := by simp [R.cells]
  rw [e, List.set_append_right _ _ (by simp [h])]
  simp [h]
theorem R.set227 (r : R) (h : r.img.length = 224) (v : Int) : r.arr.setIfInBounds 227 (.int .u32 v) = R.arr { r with ts := v } := R.setT r h 0 _
theorem R.set228 (r : R) (h : r.img.length = 224) (v u : Int) : (r.arr.setIfInBounds 228 (.int .u16 v)).setIfInBounds 229 (.int .u8 u) = R.arr { r with pp := v, ps := u } := by
  have e : r.arr.setIfInBounds 228 (.int .u16 v) = R.arr { r with pp := v } := R.setT r h 1 _
  rw [e]; exact R.setT { r with pp := v } h 2 _
theorem R.set230 (r : R) (h : r.img.length = 224) (v : ByteArray) : r.arr.setIfInBounds 230 (.string v) = R.arr { r with delta := v } := R.setT r h 3 _
theorem R.set231 (r : R) (h : r.img.length = 224) (v : Int) : r.arr.setIfInBounds 231 (.int .u8 v) = R.arr { r with slot := v } := R.setT r h 4 _
theorem R.set232 (r : R) (h : r.img.length = 224) (v : Bool) : r.arr.setIfInBounds 232 (.bool v) = R.arr { r with old := { r.old with live := v } } := R.setT r h 5 _
theorem R.set232s (r : R) (h : r.img.length = 224) (l : Bool) (p t np ns : Int) (d : ByteArray) : (((((r.arr.setIfInBounds 232 (.bool l)).setIfInBounds 233 (.int .u16 p)).setIfInBounds 234 (.int .u32 t)).setIfInBounds 235 (.int .u16 np)).setIfInBounds 236 (.int .u8 ns)).setIfInBounds 237 (.string d) = R.arr { r with old := ⟨l, p, t, np, ns, d⟩ } := by
  have e5 : r.arr.setIfInBounds 232 (.bool l) = R.arr { r with old := ⟨l, r.old.page, r.old.ts, r.old.np, r.old.ns, r.old.delta⟩ } := R.setT r h 5 _
  have e6 : (R.arr { r with old := ⟨l, r.old.page, r.old.ts, r.old.np, r.old.ns, r.old.delta⟩ }).setIfInBounds 233 (.int .u16 p) = R.arr { r with old := ⟨l, p, r.old.ts, r.old.np, r.old.ns, r.old.delta⟩ } := R.setT { r with old := ⟨l, r.old.page, r.old.ts, r.old.np, r.old.ns, r.old.delta⟩ } h 6 _
  have e7 : (R.arr { r with old := ⟨l, p, r.old.ts, r.old.np, r.old.ns, r.old.delta⟩ }).setIfInBounds 234 (.int .u32 t) = R.arr { r with old := ⟨l, p, t, r.old.np, r.old.ns, r.old.delta⟩ } := R.setT { r with old := ⟨l, p, r.old.ts, r.old.np, r.old.ns, r.old.delta⟩ } h 7 _
  have e8 : (R.arr { r with old := ⟨l, p, t, r.old.np, r.old.ns, r.old.delta⟩ }).setIfInBounds 235 (.int .u16 np) = R.arr { r with old := ⟨l, p, t, np, r.old.ns, r.old.delta⟩ } := R.setT { r with old := ⟨l, p, t, r.old.np, r.old.ns, r.old.delta⟩ } h 8 _
  have e9 : (R.arr { r with old := ⟨l, p, t, np, r.old.ns, r.old.delta⟩ }).setIfInBounds 236 (.int .u8 ns) = R.arr { r with old := ⟨l, p, t, np, ns, r.old.delta⟩ } := R.setT { r with old := ⟨l, p, t, np, r.old.ns, r.old.delta⟩ } h 9 _
  have e10 : (R.arr { r with old := ⟨l, p, t, np, ns, r.old.delta⟩ }).setIfInBounds 237 (.string d) = R.arr { r with old := ⟨l, p, t, np, ns, d⟩ } := R.setT { r with old := ⟨l, p, t, np, ns, r.old.delta⟩ } h 10 _
  rw [e5, e6, e7, e8, e9, e10]
theorem R.imgCells (r : R) (h : r.img.length = 224) : (r.arr.extract 3 (3 + 224)).toList = r.img.map (Value.int .u8) := by
  unfold R.arr R.cells
  simp [h]
/-- Those fields alone that the kind has. -/
def ownR (r : R) : R :=
  if r.kind = 1 then { R.zero with kind := r.kind, undo := r.undo, no := r.no, img := r.img }
  else if r.kind = 2 then { R.zero with kind := r.kind, no := r.no, ts := r.ts, pp := r.pp, ps := r.ps, delta := r.delta }
  else if r.kind = 3 then { R.zero with kind := r.kind, undo := true, no := r.no, slot := r.slot, old := { r.old with live := true } }
  else if r.kind = 4 then { R.zero with kind := r.kind, undo := true, no := r.no, slot := r.slot }
  else if r.kind = 5 then { R.zero with kind := r.kind, undo := true, no := r.no, slot := r.slot }
  else if r.kind = 6 then { R.zero with kind := r.kind, ts := r.ts }
  else R.zero
def okK (r : R) : Bool := decide (1 ≤ r.kind ∧ r.kind ≤ 6)

set_option maxRecDepth 20000 in
set_option maxHeartbeats 4000000 in
theorem own_1 (r : R) (w : World) (hl : r.img.length = 224) (hk : r.kind = 1) :
    Calls Try.prog 42 #[.agg r.arr] w fun e w' => e = .returned (.tuple #[.agg (ownR r).arr, .bool (okK r)]) ∧ Below w.heap.size w w' := by
  have hz := zero37
  have HO : Hid (ownR r = { R.zero with kind := r.kind, undo := r.undo, no := r.no, img := r.img }) := by show _ = _; unfold ownR; rw [if_pos hk]
  have HK : Hid (okK r = true) := by show _ = _; unfold okK; simp; omega
  rw [HO.out, HK.out]
  have t1 : (r.kind == 1) = true := by simp [hk]
  clear hk HO HK
  have r1 : Row ((w.alloc (.cells r.arr 37)).alloc (.cells R.zero.arr 37)) w.heap.size r.arr 37 := (Row.new _ _ _).alloc _
  have r2 : Row ((w.alloc (.cells r.arr 37)).alloc (.cells R.zero.arr 37)) (w.heap.size + 1) R.zero.arr 37 := by have := Row.new (w.alloc (.cells r.arr 37)) R.zero.arr 37; simpa using this
  have ab : Below w.heap.size w ((w.alloc (.cells r.arr 37)).alloc (.cells R.zero.arr 37)) := ((Below.refl _ _).alloc (Nat.le_refl _) _).alloc (by simp) _
  have hsz : Hid (((w.alloc (.cells r.arr 37)).alloc (.cells R.zero.arr 37)).heap.size = w.heap.size + 2) := by simp [Hid]
  have c0 := row_at r1 0 _ (R.at0 r)
  go_enter Try.func42, Try.ntmps42
  go_upto_region 1 with fail
  generalize (w.alloc (.cells r.arr 37)).alloc (.cells R.zero.arr 37) = w1 at r1 r2 ab hsz c0 ⊢
  have q1 := r1.alloc (.cells R.zero.arr 37)
  have q2 := r2.alloc (.cells R.zero.arr 37)
  have q3 : Row (w1.alloc (.cells R.zero.arr 37)) (w.heap.size + 2) R.zero.arr 37 := by rw [← hsz.out]; exact Row.new _ _ _
  have qb : Below w.heap.size w (w1.alloc (.cells R.zero.arr 37)) := ab.alloc (by rw [hsz.out]; omega) _
  go_upto_region 2 with (first
    | (refine build_parts rfl 37 #[(0, .tmp 6)] rfl [(0, .int .u8 r.kind)] rfl _ (built33one r.kind) ?_)
    | (refine store_cells rfl 37 (.tmp 4) (.tmp 7) rfl (w.heap.size + 2) (R.arr { R.zero with kind := r.kind }) (by rw [← hsz.out]; rfl) rfl 37 _ q3 238 size37 (R.arr_size _ (zs_length _)) (R.arr_size _ (zs_length _)) (R.arr_one _) ?_))
  have x1_0 := q1.other (g := (w.heap.size + 2)) (by omega) (R.arr { R.zero with kind := r.kind })
  have x2_0 := q2.other (g := (w.heap.size + 2)) (by omega) (R.arr { R.zero with kind := r.kind })
  have x3_0 := q3.set (R.arr { R.zero with kind := r.kind })
  have xb_0 := below_setRow qb (show w.heap.size ≤ w.heap.size + 2 by omega) (R.arr { R.zero with kind := r.kind })
  clear q1 q2 q3 qb r1 r2 ab c0
  try rw [hsz.out]
  generalize (w1.alloc (.cells R.zero.arr 37)).setRow (w.heap.size + 2) (R.arr { R.zero with kind := r.kind }) = W0 at x1_0 x2_0 x3_0 xb_0 ⊢
  clear hsz w1
  have k0 := row_at x1_0 0 _ (R.at0 r)
  go_upto_region 9 with fail
  clear k0
  have s1_1 := row_at x1_0 1 _ (R.at1 r)
  have d1_1 := row_at x3_0 1 _ (R.at1 ({ R.zero with kind := r.kind }))
  have f1_1 := row_frozen x3_0 1
  have s1_2 := row_at x1_0 2 _ (R.at2 r)
  have d1_2 := row_at x3_0 2 _ (R.at2 ({ R.zero with kind := r.kind }))
  have f1_2 := row_frozen x3_0 2
  go_upto_region 10 with fail
  have x3_1 := (row_set (row_set x3_0 1 (.bool r.undo)) 2 (.int .u16 r.no))
  rw [R.set12] at x3_1
  simp only at x3_1
  have x1_1 := (row_setCell_other (row_setCell_other x1_0 (g := (w.heap.size + 2)) (by omega) 1 (.bool r.undo)) (g := (w.heap.size + 2)) (by omega) 2 (.int .u16 r.no))
  have x2_1 := (row_setCell_other (row_setCell_other x2_0 (g := (w.heap.size + 2)) (by omega) 1 (.bool r.undo)) (g := (w.heap.size + 2)) (by omega) 2 (.int .u16 r.no))
  have xb_1 := ((((xb_0).setCell (p := ⟨(w.heap.size + 2), 1, none⟩) (by show w.heap.size ≤ w.heap.size + 2; omega) (.bool r.undo))).setCell (p := ⟨(w.heap.size + 2), 2, none⟩) (by show w.heap.size ≤ w.heap.size + 2; omega) (.int .u16 r.no))
  clear x1_0 x2_0 x3_0 xb_0 s1_1 s1_2 d1_1 f1_1 d1_2 f1_2
  generalize ((W0.setCell ⟨(w.heap.size + 2), 1, none⟩ (.bool r.undo)).setCell ⟨(w.heap.size + 2), 2, none⟩ (.int .u16 r.no)) = W1 at x1_1 x2_1 x3_1 xb_1 ⊢
  have ir := World.rangeAt_of_block x1_1 3 224
  have it : W1.there (w.heap.size + 2) 3 224 := there_row x3_1 (R.arr_size _ (zs_length _)) (by decide)
  rw [R.imgCells r hl] at ir
  go_upto_region 21 with (first
    | (refine wpList_load_mid rfl 26 (.tmp 24) rfl w.heap.size 3 rfl (r.img.map (Value.int .u8)) _ ir Try.underlying26 rfl (by rw [size26]; simp [hl]) ?_)
    | (refine wpList_store_mid rfl 26 (.tmp 26) (.tmp 25) rfl (w.heap.size + 2) 3 (r.img.map (Value.int .u8)).toArray rfl rfl (by simpa [hl] using it) (by rw [size26]; simp [hl]) (bs_one _) ?_))
  have x3_2 := row_setCells x3_1 (r.img.map (Value.int .u8)) 3
  rw [R.setImg _ (zs_length _) _ hl] at x3_2
  simp only at x3_2
  have x1_2 := row_setCells_other x1_1 (g := (w.heap.size + 2)) (by omega) (r.img.map (Value.int .u8)) 3
  have x2_2 := row_setCells_other x2_1 (g := (w.heap.size + 2)) (by omega) (r.img.map (Value.int .u8)) 3
  have xb_2 := below_setCellsR xb_1 (show w.heap.size ≤ (w.heap.size + 2) by omega) (r.img.map (Value.int .u8)) 3
  clear x1_1 x2_1 x3_1 xb_1 ir it
  try simp only [List.toList_toArray]
  generalize W1.setCells (w.heap.size + 2) 3 (r.img.map (Value.int .u8)) = W2 at x1_2 x2_2 x3_2 xb_2 ⊢
  go_wp2_with (first
    | (refine load_cells rfl 37 (.tmp 4) rfl (w.heap.size + 2) rfl 37 _ x3_2 238 Try.underlying37 rfl size37 (R.arr_size ({ R.zero with kind := r.kind, undo := r.undo, no := r.no, img := r.img }) hl) ?_)
    | (refine store_cells rfl 37 (.tmp 2) (.tmp 58) rfl (w.heap.size + 1) _ rfl rfl 37 _ x2_2 238 size37 (R.arr_size _ (zs_length _)) (R.arr_size ({ R.zero with kind := r.kind, undo := r.undo, no := r.no, img := r.img }) hl) (R.arr_one _) ?_))
  refine bodyPost_ret (v := .tuple #[.agg _, .bool true]) ?_ rfl ⟨rfl, below_setRow xb_2 (by omega) _⟩
  exact ret_cell2 (fn := Try.f42) rfl _ _ (w.heap.size + 1) 37 _ _ (.bool true) rfl rfl (x2_2.set _) Try.underlying37 rfl (by rw [size37, R.arr_size ({ R.zero with kind := r.kind, undo := r.undo, no := r.no, img := r.img }) hl])

set_option maxRecDepth 20000 in
set_option maxHeartbeats 4000000 in
theorem own_2 (r : R) (w : World) (hl : r.img.length = 224) (hk : r.kind = 2) :
    Calls Try.prog 42 #[.agg r.arr] w fun e w' => e = .returned (.tuple #[.agg (ownR r).arr, .bool (okK r)]) ∧ Below w.heap.size w w' := by
  have hz := zero37
  have HO : Hid (ownR r = { R.zero with kind := r.kind, no := r.no, ts := r.ts, pp := r.pp, ps := r.ps, delta := r.delta }) := by show _ = _; unfold ownR; rw [if_neg (by omega), if_pos hk]
  have HK : Hid (okK r = true) := by show _ = _; unfold okK; simp; omega
  rw [HO.out, HK.out]
  have t1 : (r.kind == 1) = false := by simp; omega
  have t2 : (r.kind == 2) = true := by simp [hk]
  clear hk HO HK
  have r1 : Row ((w.alloc (.cells r.arr 37)).alloc (.cells R.zero.arr 37)) w.heap.size r.arr 37 := (Row.new _ _ _).alloc _
  have r2 : Row ((w.alloc (.cells r.arr 37)).alloc (.cells R.zero.arr 37)) (w.heap.size + 1) R.zero.arr 37 := by have := Row.new (w.alloc (.cells r.arr 37)) R.zero.arr 37; simpa using this
  have ab : Below w.heap.size w ((w.alloc (.cells r.arr 37)).alloc (.cells R.zero.arr 37)) := ((Below.refl _ _).alloc (Nat.le_refl _) _).alloc (by simp) _
  have hsz : Hid (((w.alloc (.cells r.arr 37)).alloc (.cells R.zero.arr 37)).heap.size = w.heap.size + 2) := by simp [Hid]
  have c0 := row_at r1 0 _ (R.at0 r)
  go_enter Try.func42, Try.ntmps42
  go_upto_region 1 with fail
  generalize (w.alloc (.cells r.arr 37)).alloc (.cells R.zero.arr 37) = w1 at r1 r2 ab hsz c0 ⊢
  have q1 := r1.alloc (.cells R.zero.arr 37)
  have q2 := r2.alloc (.cells R.zero.arr 37)
  have q3 : Row (w1.alloc (.cells R.zero.arr 37)) (w.heap.size + 2) R.zero.arr 37 := by rw [← hsz.out]; exact Row.new _ _ _
  have qb : Below w.heap.size w (w1.alloc (.cells R.zero.arr 37)) := ab.alloc (by rw [hsz.out]; omega) _
  go_upto_region 2 with (first
    | (refine build_parts rfl 37 #[(0, .tmp 6)] rfl [(0, .int .u8 r.kind)] rfl _ (built33one r.kind) ?_)
    | (refine store_cells rfl 37 (.tmp 4) (.tmp 7) rfl (w.heap.size + 2) (R.arr { R.zero with kind := r.kind }) (by rw [← hsz.out]; rfl) rfl 37 _ q3 238 size37 (R.arr_size _ (zs_length _)) (R.arr_size _ (zs_length _)) (R.arr_one _) ?_))
  have x1_0 := q1.other (g := (w.heap.size + 2)) (by omega) (R.arr { R.zero with kind := r.kind })
  have x2_0 := q2.other (g := (w.heap.size + 2)) (by omega) (R.arr { R.zero with kind := r.kind })
  have x3_0 := q3.set (R.arr { R.zero with kind := r.kind })
  have xb_0 := below_setRow qb (show w.heap.size ≤ w.heap.size + 2 by omega) (R.arr { R.zero with kind := r.kind })
  clear q1 q2 q3 qb r1 r2 ab c0
  try rw [hsz.out]
  generalize (w1.alloc (.cells R.zero.arr 37)).setRow (w.heap.size + 2) (R.arr { R.zero with kind := r.kind }) = W0 at x1_0 x2_0 x3_0 xb_0 ⊢
  clear hsz w1
  have k0 := row_at x1_0 0 _ (R.at0 r)
  go_upto_region 11 with fail
  clear k0
  have s1_2 := row_at x1_0 2 _ (R.at2 r)
  have d1_2 := row_at x3_0 2 _ (R.at2 ({ R.zero with kind := r.kind }))
  have f1_2 := row_frozen x3_0 2
  go_upto_region 12 with fail
  have x3_1 := (row_set x3_0 2 (.int .u16 r.no))
  rw [R.set2] at x3_1
  simp only at x3_1
  have x1_1 := (row_setCell_other x1_0 (g := (w.heap.size + 2)) (by omega) 2 (.int .u16 r.no))
  have x2_1 := (row_setCell_other x2_0 (g := (w.heap.size + 2)) (by omega) 2 (.int .u16 r.no))
  have xb_1 := ((xb_0).setCell (p := ⟨(w.heap.size + 2), 2, none⟩) (by show w.heap.size ≤ w.heap.size + 2; omega) (.int .u16 r.no))
  clear x1_0 x2_0 x3_0 xb_0 s1_2 d1_2 f1_2
  generalize (W0.setCell ⟨(w.heap.size + 2), 2, none⟩ (.int .u16 r.no)) = W1 at x1_1 x2_1 x3_1 xb_1 ⊢
  have s2_227 := row_at x1_1 227 _ (R.atT r hl 0)
  have d2_227 := row_at x3_1 227 _ (R.atT ({ R.zero with kind := r.kind, no := r.no }) (zs_length _) 0)
  have f2_227 := row_frozen x3_1 227
  go_upto_region 13 with fail
  have x3_2 := (row_set x3_1 227 (.int .u32 r.ts))
  rw [R.set227 _ (by first | exact zs_length _ | exact hl)] at x3_2
  simp only at x3_2
  have x1_2 := (row_setCell_other x1_1 (g := (w.heap.size + 2)) (by omega) 227 (.int .u32 r.ts))
  have x2_2 := (row_setCell_other x2_1 (g := (w.heap.size + 2)) (by omega) 227 (.int .u32 r.ts))
  have xb_2 := ((xb_1).setCell (p := ⟨(w.heap.size + 2), 227, none⟩) (by show w.heap.size ≤ w.heap.size + 2; omega) (.int .u32 r.ts))
  clear x1_1 x2_1 x3_1 xb_1 s2_227 d2_227 f2_227
  generalize (W1.setCell ⟨(w.heap.size + 2), 227, none⟩ (.int .u32 r.ts)) = W2 at x1_2 x2_2 x3_2 xb_2 ⊢
  have s3_228 := row_at x1_2 228 _ (R.atT r hl 1)
  have d3_228 := row_at x3_2 228 _ (R.atT ({ R.zero with kind := r.kind, no := r.no, ts := r.ts }) (zs_length _) 1)
  have f3_228 := row_frozen x3_2 228
  have s3_229 := row_at x1_2 229 _ (R.atT r hl 2)
  have d3_229 := row_at x3_2 229 _ (R.atT ({ R.zero with kind := r.kind, no := r.no, ts := r.ts }) (zs_length _) 2)
  have f3_229 := row_frozen x3_2 229
  go_upto_region 14 with fail
  have x3_3 := (row_set (row_set x3_2 228 (.int .u16 r.pp)) 229 (.int .u8 r.ps))
  rw [R.set228 _ (by first | exact zs_length _ | exact hl)] at x3_3
  simp only at x3_3
  have x1_3 := (row_setCell_other (row_setCell_other x1_2 (g := (w.heap.size + 2)) (by omega) 228 (.int .u16 r.pp)) (g := (w.heap.size + 2)) (by omega) 229 (.int .u8 r.ps))
  have x2_3 := (row_setCell_other (row_setCell_other x2_2 (g := (w.heap.size + 2)) (by omega) 228 (.int .u16 r.pp)) (g := (w.heap.size + 2)) (by omega) 229 (.int .u8 r.ps))
  have xb_3 := ((((xb_2).setCell (p := ⟨(w.heap.size + 2), 228, none⟩) (by show w.heap.size ≤ w.heap.size + 2; omega) (.int .u16 r.pp))).setCell (p := ⟨(w.heap.size + 2), 229, none⟩) (by show w.heap.size ≤ w.heap.size + 2; omega) (.int .u8 r.ps))
  clear x1_2 x2_2 x3_2 xb_2 s3_228 s3_229 d3_228 f3_228 d3_229 f3_229
  generalize ((W2.setCell ⟨(w.heap.size + 2), 228, none⟩ (.int .u16 r.pp)).setCell ⟨(w.heap.size + 2), 229, none⟩ (.int .u8 r.ps)) = W3 at x1_3 x2_3 x3_3 xb_3 ⊢
  have s4_230 := row_at x1_3 230 _ (R.atT r hl 3)
  have d4_230 := row_at x3_3 230 _ (R.atT ({ R.zero with kind := r.kind, no := r.no, ts := r.ts, pp := r.pp, ps := r.ps }) (zs_length _) 3)
  have f4_230 := row_frozen x3_3 230
  go_upto_region 21 with fail
  have x3_4 := (row_set x3_3 230 (.string r.delta))
  rw [R.set230 _ (by first | exact zs_length _ | exact hl)] at x3_4
  simp only at x3_4
  have x1_4 := (row_setCell_other x1_3 (g := (w.heap.size + 2)) (by omega) 230 (.string r.delta))
  have x2_4 := (row_setCell_other x2_3 (g := (w.heap.size + 2)) (by omega) 230 (.string r.delta))
  have xb_4 := ((xb_3).setCell (p := ⟨(w.heap.size + 2), 230, none⟩) (by show w.heap.size ≤ w.heap.size + 2; omega) (.string r.delta))
  clear x1_3 x2_3 x3_3 xb_3 s4_230 d4_230 f4_230
  generalize (W3.setCell ⟨(w.heap.size + 2), 230, none⟩ (.string r.delta)) = W4 at x1_4 x2_4 x3_4 xb_4 ⊢
  go_wp2_with (first
    | (refine load_cells rfl 37 (.tmp 4) rfl (w.heap.size + 2) rfl 37 _ x3_4 238 Try.underlying37 rfl size37 (R.arr_size _ (zs_length _)) ?_)
    | (refine store_cells rfl 37 (.tmp 2) (.tmp 58) rfl (w.heap.size + 1) _ rfl rfl 37 _ x2_4 238 size37 (R.arr_size _ (zs_length _)) (R.arr_size _ (zs_length _)) (R.arr_one _) ?_))
  refine bodyPost_ret (v := .tuple #[.agg _, .bool true]) ?_ rfl ⟨rfl, below_setRow xb_4 (by omega) _⟩
  exact ret_cell2 (fn := Try.f42) rfl _ _ (w.heap.size + 1) 37 _ _ (.bool true) rfl rfl (x2_4.set _) Try.underlying37 rfl (by rw [size37, R.arr_size _ (zs_length _)])

set_option maxRecDepth 20000 in
set_option maxHeartbeats 4000000 in
theorem own_3 (r : R) (w : World) (hl : r.img.length = 224) (hk : r.kind = 3) :
    Calls Try.prog 42 #[.agg r.arr] w fun e w' => e = .returned (.tuple #[.agg (ownR r).arr, .bool (okK r)]) ∧ Below w.heap.size w w' := by
  have hz := zero37
  have HO : Hid (ownR r = { R.zero with kind := r.kind, undo := true, no := r.no, slot := r.slot, old := { r.old with live := true } }) := by show _ = _; unfold ownR; rw [if_neg (by omega), if_neg (by omega), if_pos hk]
  have HK : Hid (okK r = true) := by show _ = _; unfold okK; simp; omega
  rw [HO.out, HK.out]
  have t1 : (r.kind == 1) = false := by simp; omega
  have t2 : (r.kind == 2) = false := by simp; omega
  have t3 : (r.kind == 3) = true := by simp [hk]
  clear hk HO HK
  have r1 : Row ((w.alloc (.cells r.arr 37)).alloc (.cells R.zero.arr 37)) w.heap.size r.arr 37 := (Row.new _ _ _).alloc _
  have r2 : Row ((w.alloc (.cells r.arr 37)).alloc (.cells R.zero.arr 37)) (w.heap.size + 1) R.zero.arr 37 := by have := Row.new (w.alloc (.cells r.arr 37)) R.zero.arr 37; simpa using this
  have ab : Below w.heap.size w ((w.alloc (.cells r.arr 37)).alloc (.cells R.zero.arr 37)) := ((Below.refl _ _).alloc (Nat.le_refl _) _).alloc (by simp) _
  have hsz : Hid (((w.alloc (.cells r.arr 37)).alloc (.cells R.zero.arr 37)).heap.size = w.heap.size + 2) := by simp [Hid]
  have c0 := row_at r1 0 _ (R.at0 r)
  go_enter Try.func42, Try.ntmps42
  go_upto_region 1 with fail
  generalize (w.alloc (.cells r.arr 37)).alloc (.cells R.zero.arr 37) = w1 at r1 r2 ab hsz c0 ⊢
  have q1 := r1.alloc (.cells R.zero.arr 37)
  have q2 := r2.alloc (.cells R.zero.arr 37)
  have q3 : Row (w1.alloc (.cells R.zero.arr 37)) (w.heap.size + 2) R.zero.arr 37 := by rw [← hsz.out]; exact Row.new _ _ _
  have qb : Below w.heap.size w (w1.alloc (.cells R.zero.arr 37)) := ab.alloc (by rw [hsz.out]; omega) _
  go_upto_region 2 with (first
    | (refine build_parts rfl 37 #[(0, .tmp 6)] rfl [(0, .int .u8 r.kind)] rfl _ (built33one r.kind) ?_)
    | (refine store_cells rfl 37 (.tmp 4) (.tmp 7) rfl (w.heap.size + 2) (R.arr { R.zero with kind := r.kind }) (by rw [← hsz.out]; rfl) rfl 37 _ q3 238 size37 (R.arr_size _ (zs_length _)) (R.arr_size _ (zs_length _)) (R.arr_one _) ?_))
  have x1_0 := q1.other (g := (w.heap.size + 2)) (by omega) (R.arr { R.zero with kind := r.kind })
  have x2_0 := q2.other (g := (w.heap.size + 2)) (by omega) (R.arr { R.zero with kind := r.kind })
  have x3_0 := q3.set (R.arr { R.zero with kind := r.kind })
  have xb_0 := below_setRow qb (show w.heap.size ≤ w.heap.size + 2 by omega) (R.arr { R.zero with kind := r.kind })
  clear q1 q2 q3 qb r1 r2 ab c0
  try rw [hsz.out]
  generalize (w1.alloc (.cells R.zero.arr 37)).setRow (w.heap.size + 2) (R.arr { R.zero with kind := r.kind }) = W0 at x1_0 x2_0 x3_0 xb_0 ⊢
  clear hsz w1
  have k0 := row_at x1_0 0 _ (R.at0 r)
  go_upto_region 15 with fail
  clear k0
  have s1_232 := row_at x1_0 232 _ (R.atT r hl 5)
  have d1_232 := row_at x3_0 232 _ (R.atT ({ R.zero with kind := r.kind }) (zs_length _) 5)
  have f1_232 := row_frozen x3_0 232
  have s1_233 := row_at x1_0 233 _ (R.atT r hl 6)
  have d1_233 := row_at x3_0 233 _ (R.atT ({ R.zero with kind := r.kind }) (zs_length _) 6)
  have f1_233 := row_frozen x3_0 233
  have s1_234 := row_at x1_0 234 _ (R.atT r hl 7)
  have d1_234 := row_at x3_0 234 _ (R.atT ({ R.zero with kind := r.kind }) (zs_length _) 7)
  have f1_234 := row_frozen x3_0 234
  have s1_235 := row_at x1_0 235 _ (R.atT r hl 8)
  have d1_235 := row_at x3_0 235 _ (R.atT ({ R.zero with kind := r.kind }) (zs_length _) 8)
  have f1_235 := row_frozen x3_0 235
  have s1_236 := row_at x1_0 236 _ (R.atT r hl 9)
  have d1_236 := row_at x3_0 236 _ (R.atT ({ R.zero with kind := r.kind }) (zs_length _) 9)
  have f1_236 := row_frozen x3_0 236
  have s1_237 := row_at x1_0 237 _ (R.atT r hl 10)
  have d1_237 := row_at x3_0 237 _ (R.atT ({ R.zero with kind := r.kind }) (zs_length _) 10)
  have f1_237 := row_frozen x3_0 237
  go_upto_region 16 with fail
  have x3_1 := (row_set (row_set (row_set (row_set (row_set (row_set x3_0 232 (.bool r.old.live)) 233 (.int .u16 r.old.page)) 234 (.int .u32 r.old.ts)) 235 (.int .u16 r.old.np)) 236 (.int .u8 r.old.ns)) 237 (.string r.old.delta))
  rw [R.set232s _ (by first | exact zs_length _ | exact hl)] at x3_1
  simp only at x3_1
  have x1_1 := (row_setCell_other (row_setCell_other (row_setCell_other (row_setCell_other (row_setCell_other (row_setCell_other x1_0 (g := (w.heap.size + 2)) (by omega) 232 (.bool r.old.live)) (g := (w.heap.size + 2)) (by omega) 233 (.int .u16 r.old.page)) (g := (w.heap.size + 2)) (by omega) 234 (.int .u32 r.old.ts)) (g := (w.heap.size + 2)) (by omega) 235 (.int .u16 r.old.np)) (g := (w.heap.size + 2)) (by omega) 236 (.int .u8 r.old.ns)) (g := (w.heap.size + 2)) (by omega) 237 (.string r.old.delta))
  have x2_1 := (row_setCell_other (row_setCell_other (row_setCell_other (row_setCell_other (row_setCell_other (row_setCell_other x2_0 (g := (w.heap.size + 2)) (by omega) 232 (.bool r.old.live)) (g := (w.heap.size + 2)) (by omega) 233 (.int .u16 r.old.page)) (g := (w.heap.size + 2)) (by omega) 234 (.int .u32 r.old.ts)) (g := (w.heap.size + 2)) (by omega) 235 (.int .u16 r.old.np)) (g := (w.heap.size + 2)) (by omega) 236 (.int .u8 r.old.ns)) (g := (w.heap.size + 2)) (by omega) 237 (.string r.old.delta))
  have xb_1 := ((((((((((((xb_0).setCell (p := ⟨(w.heap.size + 2), 232, none⟩) (by show w.heap.size ≤ w.heap.size + 2; omega) (.bool r.old.live))).setCell (p := ⟨(w.heap.size + 2), 233, none⟩) (by show w.heap.size ≤ w.heap.size + 2; omega) (.int .u16 r.old.page))).setCell (p := ⟨(w.heap.size + 2), 234, none⟩) (by show w.heap.size ≤ w.heap.size + 2; omega) (.int .u32 r.old.ts))).setCell (p := ⟨(w.heap.size + 2), 235, none⟩) (by show w.heap.size ≤ w.heap.size + 2; omega) (.int .u16 r.old.np))).setCell (p := ⟨(w.heap.size + 2), 236, none⟩) (by show w.heap.size ≤ w.heap.size + 2; omega) (.int .u8 r.old.ns))).setCell (p := ⟨(w.heap.size + 2), 237, none⟩) (by show w.heap.size ≤ w.heap.size + 2; omega) (.string r.old.delta))
  clear x1_0 x2_0 x3_0 xb_0 s1_232 s1_233 s1_234 s1_235 s1_236 s1_237 d1_232 f1_232 d1_233 f1_233 d1_234 f1_234 d1_235 f1_235 d1_236 f1_236 d1_237 f1_237
  generalize ((((((W0.setCell ⟨(w.heap.size + 2), 232, none⟩ (.bool r.old.live)).setCell ⟨(w.heap.size + 2), 233, none⟩ (.int .u16 r.old.page)).setCell ⟨(w.heap.size + 2), 234, none⟩ (.int .u32 r.old.ts)).setCell ⟨(w.heap.size + 2), 235, none⟩ (.int .u16 r.old.np)).setCell ⟨(w.heap.size + 2), 236, none⟩ (.int .u8 r.old.ns)).setCell ⟨(w.heap.size + 2), 237, none⟩ (.string r.old.delta)) = W1 at x1_1 x2_1 x3_1 xb_1 ⊢
  have d2_232 := row_at x3_1 232 _ (R.atT ({ R.zero with kind := r.kind, old := r.old }) (zs_length _) 5)
  have f2_232 := row_frozen x3_1 232
  go_upto_region 17 with fail
  have x3_2 := (row_set x3_1 232 (.bool true))
  rw [R.set232 _ (by first | exact zs_length _ | exact hl)] at x3_2
  simp only at x3_2
  have x1_2 := (row_setCell_other x1_1 (g := (w.heap.size + 2)) (by omega) 232 (.bool true))
  have x2_2 := (row_setCell_other x2_1 (g := (w.heap.size + 2)) (by omega) 232 (.bool true))
  have xb_2 := ((xb_1).setCell (p := ⟨(w.heap.size + 2), 232, none⟩) (by show w.heap.size ≤ w.heap.size + 2; omega) (.bool true))
  clear x1_1 x2_1 x3_1 xb_1 d2_232 f2_232
  generalize (W1.setCell ⟨(w.heap.size + 2), 232, none⟩ (.bool true)) = W2 at x1_2 x2_2 x3_2 xb_2 ⊢
  have d3_1 := row_at x3_2 1 _ (R.at1 ({ R.zero with kind := r.kind, old := { r.old with live := true } }))
  have f3_1 := row_frozen x3_2 1
  have s3_2 := row_at x1_2 2 _ (R.at2 r)
  have d3_2 := row_at x3_2 2 _ (R.at2 ({ R.zero with kind := r.kind, old := { r.old with live := true } }))
  have f3_2 := row_frozen x3_2 2
  go_upto_region 18 with fail
  have x3_3 := (row_set (row_set x3_2 1 (.bool true)) 2 (.int .u16 r.no))
  rw [R.set12] at x3_3
  simp only at x3_3
  have x1_3 := (row_setCell_other (row_setCell_other x1_2 (g := (w.heap.size + 2)) (by omega) 1 (.bool true)) (g := (w.heap.size + 2)) (by omega) 2 (.int .u16 r.no))
  have x2_3 := (row_setCell_other (row_setCell_other x2_2 (g := (w.heap.size + 2)) (by omega) 1 (.bool true)) (g := (w.heap.size + 2)) (by omega) 2 (.int .u16 r.no))
  have xb_3 := ((((xb_2).setCell (p := ⟨(w.heap.size + 2), 1, none⟩) (by show w.heap.size ≤ w.heap.size + 2; omega) (.bool true))).setCell (p := ⟨(w.heap.size + 2), 2, none⟩) (by show w.heap.size ≤ w.heap.size + 2; omega) (.int .u16 r.no))
  clear x1_2 x2_2 x3_2 xb_2 s3_2 d3_1 f3_1 d3_2 f3_2
  generalize ((W2.setCell ⟨(w.heap.size + 2), 1, none⟩ (.bool true)).setCell ⟨(w.heap.size + 2), 2, none⟩ (.int .u16 r.no)) = W3 at x1_3 x2_3 x3_3 xb_3 ⊢
  have s4_231 := row_at x1_3 231 _ (R.atT r hl 4)
  have d4_231 := row_at x3_3 231 _ (R.atT ({ R.zero with kind := r.kind, old := { r.old with live := true }, undo := true, no := r.no }) (zs_length _) 4)
  have f4_231 := row_frozen x3_3 231
  go_upto_region 21 with fail
  have x3_4 := (row_set x3_3 231 (.int .u8 r.slot))
  rw [R.set231 _ (by first | exact zs_length _ | exact hl)] at x3_4
  simp only at x3_4
  have x1_4 := (row_setCell_other x1_3 (g := (w.heap.size + 2)) (by omega) 231 (.int .u8 r.slot))
  have x2_4 := (row_setCell_other x2_3 (g := (w.heap.size + 2)) (by omega) 231 (.int .u8 r.slot))
  have xb_4 := ((xb_3).setCell (p := ⟨(w.heap.size + 2), 231, none⟩) (by show w.heap.size ≤ w.heap.size + 2; omega) (.int .u8 r.slot))
  clear x1_3 x2_3 x3_3 xb_3 s4_231 d4_231 f4_231
  generalize (W3.setCell ⟨(w.heap.size + 2), 231, none⟩ (.int .u8 r.slot)) = W4 at x1_4 x2_4 x3_4 xb_4 ⊢
  go_wp2_with (first
    | (refine load_cells rfl 37 (.tmp 4) rfl (w.heap.size + 2) rfl 37 _ x3_4 238 Try.underlying37 rfl size37 (R.arr_size _ (zs_length _)) ?_)
    | (refine store_cells rfl 37 (.tmp 2) (.tmp 58) rfl (w.heap.size + 1) _ rfl rfl 37 _ x2_4 238 size37 (R.arr_size _ (zs_length _)) (R.arr_size _ (zs_length _)) (R.arr_one _) ?_))
  refine bodyPost_ret (v := .tuple #[.agg _, .bool true]) ?_ rfl ⟨rfl, below_setRow xb_4 (by omega) _⟩
  exact ret_cell2 (fn := Try.f42) rfl _ _ (w.heap.size + 1) 37 _ _ (.bool true) rfl rfl (x2_4.set _) Try.underlying37 rfl (by rw [size37, R.arr_size _ (zs_length _)])

set_option maxRecDepth 20000 in
set_option maxHeartbeats 4000000 in
theorem own_4 (r : R) (w : World) (hl : r.img.length = 224) (hk : r.kind = 4) :
    Calls Try.prog 42 #[.agg r.arr] w fun e w' => e = .returned (.tuple #[.agg (ownR r).arr, .bool (okK r)]) ∧ Below w.heap.size w w' := by
  have hz := zero37
  have HO : Hid (ownR r = { R.zero with kind := r.kind, undo := true, no := r.no, slot := r.slot }) := by show _ = _; unfold ownR; rw [if_neg (by omega), if_neg (by omega), if_neg (by omega), if_pos hk]
  have HK : Hid (okK r = true) := by show _ = _; unfold okK; simp; omega
  rw [HO.out, HK.out]
  have t1 : (r.kind == 1) = false := by simp; omega
  have t2 : (r.kind == 2) = false := by simp; omega
  have t3 : (r.kind == 3) = false := by simp; omega
  have t4 : (r.kind == 4) = true := by simp [hk]
  clear hk HO HK
  have r1 : Row ((w.alloc (.cells r.arr 37)).alloc (.cells R.zero.arr 37)) w.heap.size r.arr 37 := (Row.new _ _ _).alloc _
  have r2 : Row ((w.alloc (.cells r.arr 37)).alloc (.cells R.zero.arr 37)) (w.heap.size + 1) R.zero.arr 37 := by have := Row.new (w.alloc (.cells r.arr 37)) R.zero.arr 37; simpa using this
  have ab : Below w.heap.size w ((w.alloc (.cells r.arr 37)).alloc (.cells R.zero.arr 37)) := ((Below.refl _ _).alloc (Nat.le_refl _) _).alloc (by simp) _
  have hsz : Hid (((w.alloc (.cells r.arr 37)).alloc (.cells R.zero.arr 37)).heap.size = w.heap.size + 2) := by simp [Hid]
  have c0 := row_at r1 0 _ (R.at0 r)
  go_enter Try.func42, Try.ntmps42
  go_upto_region 1 with fail
  generalize (w.alloc (.cells r.arr 37)).alloc (.cells R.zero.arr 37) = w1 at r1 r2 ab hsz c0 ⊢
  have q1 := r1.alloc (.cells R.zero.arr 37)
  have q2 := r2.alloc (.cells R.zero.arr 37)
  have q3 : Row (w1.alloc (.cells R.zero.arr 37)) (w.heap.size + 2) R.zero.arr 37 := by rw [← hsz.out]; exact Row.new _ _ _
  have qb : Below w.heap.size w (w1.alloc (.cells R.zero.arr 37)) := ab.alloc (by rw [hsz.out]; omega) _
  go_upto_region 2 with (first
    | (refine build_parts rfl 37 #[(0, .tmp 6)] rfl [(0, .int .u8 r.kind)] rfl _ (built33one r.kind) ?_)
    | (refine store_cells rfl 37 (.tmp 4) (.tmp 7) rfl (w.heap.size + 2) (R.arr { R.zero with kind := r.kind }) (by rw [← hsz.out]; rfl) rfl 37 _ q3 238 size37 (R.arr_size _ (zs_length _)) (R.arr_size _ (zs_length _)) (R.arr_one _) ?_))
  have x1_0 := q1.other (g := (w.heap.size + 2)) (by omega) (R.arr { R.zero with kind := r.kind })
  have x2_0 := q2.other (g := (w.heap.size + 2)) (by omega) (R.arr { R.zero with kind := r.kind })
  have x3_0 := q3.set (R.arr { R.zero with kind := r.kind })
  have xb_0 := below_setRow qb (show w.heap.size ≤ w.heap.size + 2 by omega) (R.arr { R.zero with kind := r.kind })
  clear q1 q2 q3 qb r1 r2 ab c0
  try rw [hsz.out]
  generalize (w1.alloc (.cells R.zero.arr 37)).setRow (w.heap.size + 2) (R.arr { R.zero with kind := r.kind }) = W0 at x1_0 x2_0 x3_0 xb_0 ⊢
  clear hsz w1
  have k0 := row_at x1_0 0 _ (R.at0 r)
  go_upto_region 17 with fail
  clear k0
  have d1_1 := row_at x3_0 1 _ (R.at1 ({ R.zero with kind := r.kind }))
  have f1_1 := row_frozen x3_0 1
  have s1_2 := row_at x1_0 2 _ (R.at2 r)
  have d1_2 := row_at x3_0 2 _ (R.at2 ({ R.zero with kind := r.kind }))
  have f1_2 := row_frozen x3_0 2
  go_upto_region 18 with fail
  have x3_1 := (row_set (row_set x3_0 1 (.bool true)) 2 (.int .u16 r.no))
  rw [R.set12] at x3_1
  simp only at x3_1
  have x1_1 := (row_setCell_other (row_setCell_other x1_0 (g := (w.heap.size + 2)) (by omega) 1 (.bool true)) (g := (w.heap.size + 2)) (by omega) 2 (.int .u16 r.no))
  have x2_1 := (row_setCell_other (row_setCell_other x2_0 (g := (w.heap.size + 2)) (by omega) 1 (.bool true)) (g := (w.heap.size + 2)) (by omega) 2 (.int .u16 r.no))
  have xb_1 := ((((xb_0).setCell (p := ⟨(w.heap.size + 2), 1, none⟩) (by show w.heap.size ≤ w.heap.size + 2; omega) (.bool true))).setCell (p := ⟨(w.heap.size + 2), 2, none⟩) (by show w.heap.size ≤ w.heap.size + 2; omega) (.int .u16 r.no))
  clear x1_0 x2_0 x3_0 xb_0 s1_2 d1_1 f1_1 d1_2 f1_2
  generalize ((W0.setCell ⟨(w.heap.size + 2), 1, none⟩ (.bool true)).setCell ⟨(w.heap.size + 2), 2, none⟩ (.int .u16 r.no)) = W1 at x1_1 x2_1 x3_1 xb_1 ⊢
  have s2_231 := row_at x1_1 231 _ (R.atT r hl 4)
  have d2_231 := row_at x3_1 231 _ (R.atT ({ R.zero with kind := r.kind, undo := true, no := r.no }) (zs_length _) 4)
  have f2_231 := row_frozen x3_1 231
  go_upto_region 21 with fail
  have x3_2 := (row_set x3_1 231 (.int .u8 r.slot))
  rw [R.set231 _ (by first | exact zs_length _ | exact hl)] at x3_2
  simp only at x3_2
  have x1_2 := (row_setCell_other x1_1 (g := (w.heap.size + 2)) (by omega) 231 (.int .u8 r.slot))
  have x2_2 := (row_setCell_other x2_1 (g := (w.heap.size + 2)) (by omega) 231 (.int .u8 r.slot))
  have xb_2 := ((xb_1).setCell (p := ⟨(w.heap.size + 2), 231, none⟩) (by show w.heap.size ≤ w.heap.size + 2; omega) (.int .u8 r.slot))
  clear x1_1 x2_1 x3_1 xb_1 s2_231 d2_231 f2_231
  generalize (W1.setCell ⟨(w.heap.size + 2), 231, none⟩ (.int .u8 r.slot)) = W2 at x1_2 x2_2 x3_2 xb_2 ⊢
  go_wp2_with (first
    | (refine load_cells rfl 37 (.tmp 4) rfl (w.heap.size + 2) rfl 37 _ x3_2 238 Try.underlying37 rfl size37 (R.arr_size _ (zs_length _)) ?_)
    | (refine store_cells rfl 37 (.tmp 2) (.tmp 58) rfl (w.heap.size + 1) _ rfl rfl 37 _ x2_2 238 size37 (R.arr_size _ (zs_length _)) (R.arr_size _ (zs_length _)) (R.arr_one _) ?_))
  refine bodyPost_ret (v := .tuple #[.agg _, .bool true]) ?_ rfl ⟨rfl, below_setRow xb_2 (by omega) _⟩
  exact ret_cell2 (fn := Try.f42) rfl _ _ (w.heap.size + 1) 37 _ _ (.bool true) rfl rfl (x2_2.set _) Try.underlying37 rfl (by rw [size37, R.arr_size _ (zs_length _)])

set_option maxRecDepth 20000 in
set_option maxHeartbeats 4000000 in
theorem own_5 (r : R) (w : World) (hl : r.img.length = 224) (hk : r.kind = 5) :
    Calls Try.prog 42 #[.agg r.arr] w fun e w' => e = .returned (.tuple #[.agg (ownR r).arr, .bool (okK r)]) ∧ Below w.heap.size w w' := by
  have hz := zero37
  have HO : Hid (ownR r = { R.zero with kind := r.kind, undo := true, no := r.no, slot := r.slot }) := by show _ = _; unfold ownR; rw [if_neg (by omega), if_neg (by omega), if_neg (by omega), if_neg (by omega), if_pos hk]
  have HK : Hid (okK r = true) := by show _ = _; unfold okK; simp; omega
  rw [HO.out, HK.out]
  have t1 : (r.kind == 1) = false := by simp; omega
  have t2 : (r.kind == 2) = false := by simp; omega
  have t3 : (r.kind == 3) = false := by simp; omega
  have t4 : (r.kind == 4) = false := by simp; omega
  have t5 : (r.kind == 5) = true := by simp [hk]
  clear hk HO HK
  have r1 : Row ((w.alloc (.cells r.arr 37)).alloc (.cells R.zero.arr 37)) w.heap.size r.arr 37 := (Row.new _ _ _).alloc _
  have r2 : Row ((w.alloc (.cells r.arr 37)).alloc (.cells R.zero.arr 37)) (w.heap.size + 1) R.zero.arr 37 := by have := Row.new (w.alloc (.cells r.arr 37)) R.zero.arr 37; simpa using this
  have ab : Below w.heap.size w ((w.alloc (.cells r.arr 37)).alloc (.cells R.zero.arr 37)) := ((Below.refl _ _).alloc (Nat.le_refl _) _).alloc (by simp) _
  have hsz : Hid (((w.alloc (.cells r.arr 37)).alloc (.cells R.zero.arr 37)).heap.size = w.heap.size + 2) := by simp [Hid]
  have c0 := row_at r1 0 _ (R.at0 r)
  go_enter Try.func42, Try.ntmps42
  go_upto_region 1 with fail
  generalize (w.alloc (.cells r.arr 37)).alloc (.cells R.zero.arr 37) = w1 at r1 r2 ab hsz c0 ⊢
  have q1 := r1.alloc (.cells R.zero.arr 37)
  have q2 := r2.alloc (.cells R.zero.arr 37)
  have q3 : Row (w1.alloc (.cells R.zero.arr 37)) (w.heap.size + 2) R.zero.arr 37 := by rw [← hsz.out]; exact Row.new _ _ _
  have qb : Below w.heap.size w (w1.alloc (.cells R.zero.arr 37)) := ab.alloc (by rw [hsz.out]; omega) _
  go_upto_region 2 with (first
    | (refine build_parts rfl 37 #[(0, .tmp 6)] rfl [(0, .int .u8 r.kind)] rfl _ (built33one r.kind) ?_)
    | (refine store_cells rfl 37 (.tmp 4) (.tmp 7) rfl (w.heap.size + 2) (R.arr { R.zero with kind := r.kind }) (by rw [← hsz.out]; rfl) rfl 37 _ q3 238 size37 (R.arr_size _ (zs_length _)) (R.arr_size _ (zs_length _)) (R.arr_one _) ?_))
  have x1_0 := q1.other (g := (w.heap.size + 2)) (by omega) (R.arr { R.zero with kind := r.kind })
  have x2_0 := q2.other (g := (w.heap.size + 2)) (by omega) (R.arr { R.zero with kind := r.kind })
  have x3_0 := q3.set (R.arr { R.zero with kind := r.kind })
  have xb_0 := below_setRow qb (show w.heap.size ≤ w.heap.size + 2 by omega) (R.arr { R.zero with kind := r.kind })
  clear q1 q2 q3 qb r1 r2 ab c0
  try rw [hsz.out]
  generalize (w1.alloc (.cells R.zero.arr 37)).setRow (w.heap.size + 2) (R.arr { R.zero with kind := r.kind }) = W0 at x1_0 x2_0 x3_0 xb_0 ⊢
  clear hsz w1
  have k0 := row_at x1_0 0 _ (R.at0 r)
  go_upto_region 17 with fail
  clear k0
  have d1_1 := row_at x3_0 1 _ (R.at1 ({ R.zero with kind := r.kind }))
  have f1_1 := row_frozen x3_0 1
  have s1_2 := row_at x1_0 2 _ (R.at2 r)
  have d1_2 := row_at x3_0 2 _ (R.at2 ({ R.zero with kind := r.kind }))
  have f1_2 := row_frozen x3_0 2
  go_upto_region 18 with fail
  have x3_1 := (row_set (row_set x3_0 1 (.bool true)) 2 (.int .u16 r.no))
  rw [R.set12] at x3_1
  simp only at x3_1
  have x1_1 := (row_setCell_other (row_setCell_other x1_0 (g := (w.heap.size + 2)) (by omega) 1 (.bool true)) (g := (w.heap.size + 2)) (by omega) 2 (.int .u16 r.no))
  have x2_1 := (row_setCell_other (row_setCell_other x2_0 (g := (w.heap.size + 2)) (by omega) 1 (.bool true)) (g := (w.heap.size + 2)) (by omega) 2 (.int .u16 r.no))
  have xb_1 := ((((xb_0).setCell (p := ⟨(w.heap.size + 2), 1, none⟩) (by show w.heap.size ≤ w.heap.size + 2; omega) (.bool true))).setCell (p := ⟨(w.heap.size + 2), 2, none⟩) (by show w.heap.size ≤ w.heap.size + 2; omega) (.int .u16 r.no))
  clear x1_0 x2_0 x3_0 xb_0 s1_2 d1_1 f1_1 d1_2 f1_2
  generalize ((W0.setCell ⟨(w.heap.size + 2), 1, none⟩ (.bool true)).setCell ⟨(w.heap.size + 2), 2, none⟩ (.int .u16 r.no)) = W1 at x1_1 x2_1 x3_1 xb_1 ⊢
  have s2_231 := row_at x1_1 231 _ (R.atT r hl 4)
  have d2_231 := row_at x3_1 231 _ (R.atT ({ R.zero with kind := r.kind, undo := true, no := r.no }) (zs_length _) 4)
  have f2_231 := row_frozen x3_1 231
  go_upto_region 21 with fail
  have x3_2 := (row_set x3_1 231 (.int .u8 r.slot))
  rw [R.set231 _ (by first | exact zs_length _ | exact hl)] at x3_2
  simp only at x3_2
  have x1_2 := (row_setCell_other x1_1 (g := (w.heap.size + 2)) (by omega) 231 (.int .u8 r.slot))
  have x2_2 := (row_setCell_other x2_1 (g := (w.heap.size + 2)) (by omega) 231 (.int .u8 r.slot))
  have xb_2 := ((xb_1).setCell (p := ⟨(w.heap.size + 2), 231, none⟩) (by show w.heap.size ≤ w.heap.size + 2; omega) (.int .u8 r.slot))
  clear x1_1 x2_1 x3_1 xb_1 s2_231 d2_231 f2_231
  generalize (W1.setCell ⟨(w.heap.size + 2), 231, none⟩ (.int .u8 r.slot)) = W2 at x1_2 x2_2 x3_2 xb_2 ⊢
  go_wp2_with (first
    | (refine load_cells rfl 37 (.tmp 4) rfl (w.heap.size + 2) rfl 37 _ x3_2 238 Try.underlying37 rfl size37 (R.arr_size _ (zs_length _)) ?_)
    | (refine store_cells rfl 37 (.tmp 2) (.tmp 58) rfl (w.heap.size + 1) _ rfl rfl 37 _ x2_2 238 size37 (R.arr_size _ (zs_length _)) (R.arr_size _ (zs_length _)) (R.arr_one _) ?_))
  refine bodyPost_ret (v := .tuple #[.agg _, .bool true]) ?_ rfl ⟨rfl, below_setRow xb_2 (by omega) _⟩
  exact ret_cell2 (fn := Try.f42) rfl _ _ (w.heap.size + 1) 37 _ _ (.bool true) rfl rfl (x2_2.set _) Try.underlying37 rfl (by rw [size37, R.arr_size _ (zs_length _)])

set_option maxRecDepth 20000 in
set_option maxHeartbeats 4000000 in
theorem own_6 (r : R) (w : World) (hl : r.img.length = 224) (hk : r.kind = 6) :
    Calls Try.prog 42 #[.agg r.arr] w fun e w' => e = .returned (.tuple #[.agg (ownR r).arr, .bool (okK r)]) ∧ Below w.heap.size w w' := by
  have hz := zero37
  have HO : Hid (ownR r = { R.zero with kind := r.kind, ts := r.ts }) := by show _ = _; unfold ownR; rw [if_neg (by omega), if_neg (by omega), if_neg (by omega), if_neg (by omega), if_neg (by omega), if_pos hk]
  have HK : Hid (okK r = true) := by show _ = _; unfold okK; simp; omega
  rw [HO.out, HK.out]
  have t1 : (r.kind == 1) = false := by simp; omega
  have t2 : (r.kind == 2) = false := by simp; omega
  have t3 : (r.kind == 3) = false := by simp; omega
  have t4 : (r.kind == 4) = false := by simp; omega
  have t5 : (r.kind == 5) = false := by simp; omega
  have t6 : (r.kind == 6) = true := by simp [hk]
  clear hk HO HK
  have r1 : Row ((w.alloc (.cells r.arr 37)).alloc (.cells R.zero.arr 37)) w.heap.size r.arr 37 := (Row.new _ _ _).alloc _
  have r2 : Row ((w.alloc (.cells r.arr 37)).alloc (.cells R.zero.arr 37)) (w.heap.size + 1) R.zero.arr 37 := by have := Row.new (w.alloc (.cells r.arr 37)) R.zero.arr 37; simpa using this
  have ab : Below w.heap.size w ((w.alloc (.cells r.arr 37)).alloc (.cells R.zero.arr 37)) := ((Below.refl _ _).alloc (Nat.le_refl _) _).alloc (by simp) _
  have hsz : Hid (((w.alloc (.cells r.arr 37)).alloc (.cells R.zero.arr 37)).heap.size = w.heap.size + 2) := by simp [Hid]
  have c0 := row_at r1 0 _ (R.at0 r)
  go_enter Try.func42, Try.ntmps42
  go_upto_region 1 with fail
  generalize (w.alloc (.cells r.arr 37)).alloc (.cells R.zero.arr 37) = w1 at r1 r2 ab hsz c0 ⊢
  have q1 := r1.alloc (.cells R.zero.arr 37)
  have q2 := r2.alloc (.cells R.zero.arr 37)
  have q3 : Row (w1.alloc (.cells R.zero.arr 37)) (w.heap.size + 2) R.zero.arr 37 := by rw [← hsz.out]; exact Row.new _ _ _
  have qb : Below w.heap.size w (w1.alloc (.cells R.zero.arr 37)) := ab.alloc (by rw [hsz.out]; omega) _
  go_upto_region 2 with (first
    | (refine build_parts rfl 37 #[(0, .tmp 6)] rfl [(0, .int .u8 r.kind)] rfl _ (built33one r.kind) ?_)
    | (refine store_cells rfl 37 (.tmp 4) (.tmp 7) rfl (w.heap.size + 2) (R.arr { R.zero with kind := r.kind }) (by rw [← hsz.out]; rfl) rfl 37 _ q3 238 size37 (R.arr_size _ (zs_length _)) (R.arr_size _ (zs_length _)) (R.arr_one _) ?_))
  have x1_0 := q1.other (g := (w.heap.size + 2)) (by omega) (R.arr { R.zero with kind := r.kind })
  have x2_0 := q2.other (g := (w.heap.size + 2)) (by omega) (R.arr { R.zero with kind := r.kind })
  have x3_0 := q3.set (R.arr { R.zero with kind := r.kind })
  have xb_0 := below_setRow qb (show w.heap.size ≤ w.heap.size + 2 by omega) (R.arr { R.zero with kind := r.kind })
  clear q1 q2 q3 qb r1 r2 ab c0
  try rw [hsz.out]
  generalize (w1.alloc (.cells R.zero.arr 37)).setRow (w.heap.size + 2) (R.arr { R.zero with kind := r.kind }) = W0 at x1_0 x2_0 x3_0 xb_0 ⊢
  clear hsz w1
  have k0 := row_at x1_0 0 _ (R.at0 r)
  go_upto_region 19 with fail
  clear k0
  have s1_227 := row_at x1_0 227 _ (R.atT r hl 0)
  have d1_227 := row_at x3_0 227 _ (R.atT ({ R.zero with kind := r.kind }) (zs_length _) 0)
  have f1_227 := row_frozen x3_0 227
  go_upto_region 21 with fail
  have x3_1 := (row_set x3_0 227 (.int .u32 r.ts))
  rw [R.set227 _ (by first | exact zs_length _ | exact hl)] at x3_1
  simp only at x3_1
  have x1_1 := (row_setCell_other x1_0 (g := (w.heap.size + 2)) (by omega) 227 (.int .u32 r.ts))
  have x2_1 := (row_setCell_other x2_0 (g := (w.heap.size + 2)) (by omega) 227 (.int .u32 r.ts))
  have xb_1 := ((xb_0).setCell (p := ⟨(w.heap.size + 2), 227, none⟩) (by show w.heap.size ≤ w.heap.size + 2; omega) (.int .u32 r.ts))
  clear x1_0 x2_0 x3_0 xb_0 s1_227 d1_227 f1_227
  generalize (W0.setCell ⟨(w.heap.size + 2), 227, none⟩ (.int .u32 r.ts)) = W1 at x1_1 x2_1 x3_1 xb_1 ⊢
  go_wp2_with (first
    | (refine load_cells rfl 37 (.tmp 4) rfl (w.heap.size + 2) rfl 37 _ x3_1 238 Try.underlying37 rfl size37 (R.arr_size _ (zs_length _)) ?_)
    | (refine store_cells rfl 37 (.tmp 2) (.tmp 58) rfl (w.heap.size + 1) _ rfl rfl 37 _ x2_1 238 size37 (R.arr_size _ (zs_length _)) (R.arr_size _ (zs_length _)) (R.arr_one _) ?_))
  refine bodyPost_ret (v := .tuple #[.agg _, .bool true]) ?_ rfl ⟨rfl, below_setRow xb_1 (by omega) _⟩
  exact ret_cell2 (fn := Try.f42) rfl _ _ (w.heap.size + 1) 37 _ _ (.bool true) rfl rfl (x2_1.set _) Try.underlying37 rfl (by rw [size37, R.arr_size _ (zs_length _)])

set_option maxRecDepth 20000 in
set_option maxHeartbeats 4000000 in
theorem own_no (r : R) (w : World) (hl : r.img.length = 224) (hk : ¬ (1 ≤ r.kind ∧ r.kind ≤ 6)) :
    Calls Try.prog 42 #[.agg r.arr] w fun e w' => e = .returned (.tuple #[.agg (ownR r).arr, .bool (okK r)]) ∧ Below w.heap.size w w' := by
  have hz := zero37
  have HO : Hid (ownR r = R.zero) := by show _ = _; unfold ownR; rw [if_neg (by omega), if_neg (by omega), if_neg (by omega), if_neg (by omega), if_neg (by omega), if_neg (by omega)]
  have HK : Hid (okK r = false) := by show _ = _; unfold okK; simp; omega
  rw [HO.out, HK.out]
  have t1 : (r.kind == 1) = false := by simp; omega
  have t2 : (r.kind == 2) = false := by simp; omega
  have t3 : (r.kind == 3) = false := by simp; omega
  have t4 : (r.kind == 4) = false := by simp; omega
  have t5 : (r.kind == 5) = false := by simp; omega
  have t6 : (r.kind == 6) = false := by simp; omega
  clear hk HO HK
  have r1 : Row ((w.alloc (.cells r.arr 37)).alloc (.cells R.zero.arr 37)) w.heap.size r.arr 37 := (Row.new _ _ _).alloc _
  have r2 : Row ((w.alloc (.cells r.arr 37)).alloc (.cells R.zero.arr 37)) (w.heap.size + 1) R.zero.arr 37 := by have := Row.new (w.alloc (.cells r.arr 37)) R.zero.arr 37; simpa using this
  have ab : Below w.heap.size w ((w.alloc (.cells r.arr 37)).alloc (.cells R.zero.arr 37)) := ((Below.refl _ _).alloc (Nat.le_refl _) _).alloc (by simp) _
  have hsz : Hid (((w.alloc (.cells r.arr 37)).alloc (.cells R.zero.arr 37)).heap.size = w.heap.size + 2) := by simp [Hid]
  have c0 := row_at r1 0 _ (R.at0 r)
  go_enter Try.func42, Try.ntmps42
  go_upto_region 1 with fail
  generalize (w.alloc (.cells r.arr 37)).alloc (.cells R.zero.arr 37) = w1 at r1 r2 ab hsz c0 ⊢
  have q1 := r1.alloc (.cells R.zero.arr 37)
  have q2 := r2.alloc (.cells R.zero.arr 37)
  have q3 : Row (w1.alloc (.cells R.zero.arr 37)) (w.heap.size + 2) R.zero.arr 37 := by rw [← hsz.out]; exact Row.new _ _ _
  have qb : Below w.heap.size w (w1.alloc (.cells R.zero.arr 37)) := ab.alloc (by rw [hsz.out]; omega) _
  go_upto_region 2 with (first
    | (refine build_parts rfl 37 #[(0, .tmp 6)] rfl [(0, .int .u8 r.kind)] rfl _ (built33one r.kind) ?_)
    | (refine store_cells rfl 37 (.tmp 4) (.tmp 7) rfl (w.heap.size + 2) (R.arr { R.zero with kind := r.kind }) (by rw [← hsz.out]; rfl) rfl 37 _ q3 238 size37 (R.arr_size _ (zs_length _)) (R.arr_size _ (zs_length _)) (R.arr_one _) ?_))
  have x1_0 := q1.other (g := (w.heap.size + 2)) (by omega) (R.arr { R.zero with kind := r.kind })
  have x2_0 := q2.other (g := (w.heap.size + 2)) (by omega) (R.arr { R.zero with kind := r.kind })
  have x3_0 := q3.set (R.arr { R.zero with kind := r.kind })
  have xb_0 := below_setRow qb (show w.heap.size ≤ w.heap.size + 2 by omega) (R.arr { R.zero with kind := r.kind })
  clear q1 q2 q3 qb r1 r2 ab c0
  try rw [hsz.out]
  generalize (w1.alloc (.cells R.zero.arr 37)).setRow (w.heap.size + 2) (R.arr { R.zero with kind := r.kind }) = W0 at x1_0 x2_0 x3_0 xb_0 ⊢
  clear hsz w1
  have k0 := row_at x1_0 0 _ (R.at0 r)
  go_wp2_with (first
    | (refine build_none rfl 37 rfl _ built37 ?_)
    | (refine store_cells rfl 37 (.tmp 2) (.tmp 57) rfl (w.heap.size + 1) R.zero.arr rfl rfl 37 _ x2_0 238 size37 (R.arr_size _ (zs_length _)) (R.arr_size _ (zs_length _)) (R.arr_one _) ?_))
  refine bodyPost_ret (v := .tuple #[.agg R.zero.arr, .bool false]) ?_ rfl ⟨rfl, below_setRow xb_0 (by omega) _⟩
  exact ret_cell2 (fn := Try.f42) rfl _ _ (w.heap.size + 1) 37 _ _ (.bool false) rfl rfl (x2_0.set _) Try.underlying37 rfl (by rw [size37, R.arr_size _ (zs_length _)])

theorem own_any (r : R) (w : World) (hl : r.img.length = 224) :
    Calls Try.prog 42 #[.agg r.arr] w fun e w' => e = .returned (.tuple #[.agg (ownR r).arr, .bool (okK r)]) ∧ Below w.heap.size w w' := by
  by_cases h1 : r.kind = 1
  · exact own_1 r w hl h1
  by_cases h2 : r.kind = 2
  · exact own_2 r w hl h2
  by_cases h3 : r.kind = 3
  · exact own_3 r w hl h3
  by_cases h4 : r.kind = 4
  · exact own_4 r w hl h4
  by_cases h5 : r.kind = 5
  · exact own_5 r w hl h5
  by_cases h6 : r.kind = 6
  · exact own_6 r w hl h6
  exact own_no r w hl (by omega)
theorem ownR_img (r : R) (hl : r.img.length = 224) : (ownR r).img.length = 224 := by
  unfold ownR
  repeat' split
  all_goals first | exact hl | exact zs_length _
end Go.Proofs.Ytihjapfgllokgab
