/-
  Proved here: what disk.New makes, and the block that the statements fill with bytes. Plain facts on pending writes as cells: a struct of a key and a sector, built, loaded whole and in its parts. Plain facts: a page in a frame, as it lies in memory. Proved here: cache.Place, cache.within. Plain facts for regions: a store into a map, a slice of one struct, an append to a slice of structs. Proved here: a round of disk.Write: one sector is laidD over the fresh ones, and stands behind the pending ones.
-/
import Derived.Test.YtehogiondcpbcaaJq03
import Derived.Deep.MidRow
import Derived.Test.YtehogiondcpbcaaJq02
import Derived.Test.YtehogiondcpbcaaJq01
import Derived.Great.BuildSlice
import Derived.Maps.AppendAt
namespace Go.Proofs.Ytehogiondcpbcaa
open Go.ChangeShapes Go.WideShapes Go.ChangeAt Go.RowKit
set_option linter.unusedVariables false
set_option linter.unusedSimpArgs false
set_option maxRecDepth 20000
def Dsk.new (n : Nat) : Dsk := ⟨n, fun _ _ => none, [], false, 0, 0, fun _ => false⟩
def Loc.new (k : Nat) : Loc := ⟨k, k + 1, .slice none 0 0, .map none⟩
theorem new_at (w : World) (n : Nat) (h1 : 1 ≤ n) (h2 : n ≤ 2048) : DAt (((w.alloc (.map #[] 0)).alloc (.map #[] 0)).alloc (.cells (dcells (Dsk.new n) (Loc.new w.heap.size)) 88)) (w.heap.size + 2) (Dsk.new n) (Loc.new w.heap.size) 0 where
  row := by have := Row.new ((w.alloc (.map #[] 0)).alloc (.map #[] 0)) (dcells (Dsk.new n) (Loc.new w.heap.size)) 88; simpa using this
  sure := ⟨0, ((SMap.made w).kept (Below.heap_alloc _ _ _ (by simp))).kept (Below.heap_alloc _ _ _ (by simp [Loc.new]; omega)), Nat.le_refl _⟩
  fresh := by
    have := (SMap.made (w.alloc (.map #[] 0))).kept (w' := ((w.alloc (.map #[] 0)).alloc (.map #[] 0)).alloc (.cells (dcells (Dsk.new n) (Loc.new w.heap.size)) 88)) (Below.heap_alloc _ _ _ (by simp))
    simpa [Loc.new, Dsk.new, over] using this
  ab := by simp [Loc.new]
  pend := World.ownsRow_nil _ _ _ _
  fails := FMap.none _
  fa := by simp [Loc.new]
  fb := by simp [Loc.new]
  big := by decide
  okp := fun q hq => nomatch hq
  small := ⟨h1, h2⟩
  opsn := by simp [Dsk.new]
  fusew := wf_of (by simp [Dsk.new]) (by simp [Dsk.new])
theorem new_walk (n : Nat) (h1 : 1 ≤ n) (h2 : n ≤ 2048) (w : World) :
    Calls Try.prog 34 #[.int .i64 n] w fun e w' => e = .returned (.pointer (some ⟨w.heap.size + 1 + 1, 0, none⟩)) ∧ w' = (((w.alloc (.map #[] 0)).alloc (.map #[] 0)).alloc (.cells (dcells (Dsk.new n) (Loc.new w.heap.size)) 88)) := by
  have hmm := @run_makeMap Try.prog
  have k1 : ¬ (n : Int) < 1 := by omega
  have k2 : ¬ (n : Int) > 2048 := by omega
  go_enter Try.func34, Try.ntmps34
  go_wp2
  go_ret
  exact ⟨rfl, rfl⟩
theorem new_some (n : Nat) (h1 : 1 ≤ n) (h2 : n ≤ 2048) (w : World) :
    Calls Try.prog 34 #[.int .i64 n] w fun e w' => e = .returned (.pointer (some ⟨w.heap.size + 2, 0, none⟩)) ∧ DAt w' (w.heap.size + 2) (Dsk.new n) (Loc.new w.heap.size) 0 ∧ Below w.heap.size w w' := by
  refine (new_walk n h1 h2 w).mono ?_
  rintro e w' ⟨rfl, rfl⟩
  exact ⟨rfl, new_at w n h1 h2, (((Below.refl _ _).alloc (Nat.le_refl _) _).alloc (by simp) _).alloc (by simp; omega) _⟩
theorem new_foot (k j : Nat) (h : foot (k + 2) (Loc.new k) j) : k ≤ j := by
  rcases h with rfl | rfl | rfl | e | e
  · omega
  · exact Nat.le_refl _
  · simp [Loc.new]
  · simp [Loc.new, Value.ownBlock] at e
  · simp [Loc.new] at e
def filled (b : Int) : List Int := fl 256 fun j => (b + (j / 64 : Nat)) % 256
theorem splice_set {α : Type} (L : List α) (o : Nat) (x : α) (r : List α) (h : o < L.length) : splice (L.set o x) (o + 1) r = splice L o (x :: r) := by
  unfold splice
  have e1 : (L.set o x).take (o + 1) = L.take o ++ [x] := by
    rw [List.take_add_one, List.take_set_of_le (by omega)]
    simp [h]
  have e2 : (L.set o x).drop (o + 1 + r.length) = L.drop (o + (x :: r).length) := by
    rw [List.drop_set_of_lt (by omega)]
    simp; congr 1; omega
  rw [e1, e2]; simp
theorem fold_set : ∀ (l : List Value) (n off : Nat) (cs : Array Value), off + n + l.length ≤ cs.size → (l.zipIdx n).foldl (fun cs (p : Value × Nat) => cs.setIfInBounds (off + p.2) p.1) cs = (⟨splice cs.toList (off + n) l⟩ : Array Value)
  | [], n, off, cs, h => by simp [splice]
  | x :: r, n, off, cs, h => by
    rw [List.zipIdx_cons, List.foldl_cons, fold_set r (n + 1) off _ (by simp at h ⊢; omega)]
    congr 1
    simp only [Array.toList_setIfInBounds]
    have := splice_set cs.toList (off + n) x r (by simp at h ⊢; omega)
    rw [← this]; rfl
theorem fold_arr (v : Array Value) (off : Nat) (cs : Array Value) (h : off + v.size ≤ cs.size) : v.zipIdx.foldl (fun cs (p : Value × Nat) => cs.setIfInBounds (off + p.2) p.1) cs = (⟨splice cs.toList off v.toList⟩ : Array Value) := by
  rw [← Array.foldl_toList, Array.toList_zipIdx]
  exact fold_set v.toList 0 off cs (by simpa using h)
theorem fill_step (place : Nat → Option (Nat × Nat)) (cells : Array Value) (i : Nat) (v : Value) (rest : List (Nat × Value)) (off size : Nat) (hp : place i = some (off, size)) (h1 : v.cells.size = size) (h2 : off + size ≤ cells.size) :
    Instr.fill place cells ((i, v) :: rest) = Instr.fill place ⟨splice cells.toList off v.cells.toList⟩ rest := by
  have : ¬ (decide (v.cells.size ≠ size) || decide (off + v.cells.size > cells.size)) = true := by simp [h1]; omega
  rw [Instr.fill, hp]
  simp only []
  rw [if_neg this]
  have := fold_arr v.cells off cells (by omega)
  rw [← this]
def wcells (b s : Int) (xs : List Int) : Array Value := (pcell (b, s, xs)).toArray
theorem wcells_size (b s : Int) (xs : List Int) (h : xs.length = 64) : (wcells b s xs).size = 66 := by simp [wcells, pcell, h]
theorem wcells_one (b s : Int) (xs : List Int) : (wcells b s xs).all (·.oneCell') = true := by simp [wcells, pcell, Value.oneCell']
theorem info136 : (Try.prog.info? 136).map (fun i => (i.zero, i.size, i.bytes)) = some (some (.agg (wcells 0 0 (zs 64))), 66, 80) := by kernel_rfl
theorem size90 : (Try.prog.info? 90).map (·.size) = some 2 := by kernel_rfl
theorem size136 : (Try.prog.info? 136).map (·.size) = some 66 := by kernel_rfl
theorem zero136 (w : World) : (zeroValue 136).run Try.prog w = .ok (.agg (wcells 0 0 (zs 64))) w := (zero_of_info (P := Try.prog) (t := 136) (v := .agg (wcells 0 0 (zs 64))) (n := 66) (by kernel_rfl)).1 w
theorem built136 (b s : Int) (xs : List Int) (h : xs.length = 64) : Try.prog.built 136 [(0, .agg #[.int .i64 b, .int .i64 s]), (1, .agg (bs xs))] = some (wcells b s xs) := by
  unfold Program.built
  have h81 := info136
  cases hq : Try.prog.info? 136 with
  | none => simp [hq] at h81
  | some it =>
    simp [hq] at h81
    rw [Try.underlying136]
    cases h74 : Try.prog.info? 90 with
    | none => have := size90; simp [h74] at this
    | some i74 =>
      cases h71 : Try.prog.info? 79 with
      | none => have := size79; simp [h71] at this
      | some i71 =>
        have e74 := size90; have e71 := size79
        simp [h74] at e74; simp [h71] at e71
        simp [h74, h71, h81.1, e74, e71]
        have hz : (wcells 0 0 (zs 64)).size = 66 := wcells_size _ _ _ (zs_length 64)
        have hz2 : (⟨splice (wcells 0 0 (zs 64)).toList 0 #[Value.int .i64 b, Value.int .i64 s].toList⟩ : Array Value).size = 66 := by
          simp [splice, wcells, pcell, zs]
        have hz0 : (Value.agg (wcells 0 0 (zs 64))).cells = wcells 0 0 (zs 64) := rfl
        rw [hz0, fill_step _ _ 0 _ _ 0 2 rfl rfl (by omega), fill_step _ _ 1 _ _ 2 64 rfl (by show (bs xs).size = 64; rw [bs_size, h]) (by show 2 + 64 ≤ Array.size _; exact Nat.le_of_eq hz2.symm)]
        unfold Instr.fill
        congr 1
        show (⟨splice (splice (wcells 0 0 (zs 64)).toList 0 [Value.int .i64 b, Value.int .i64 s]) 2 (bs xs).toList⟩ : Array Value) = wcells b s xs
        unfold wcells pcell bs
        simp [splice, zs, h]
theorem build_two {P : Program} {ops : Array Oper} {rest : List Oper} {o : Oper} {a : Act} {w : World} {Q : Exit → Act → World → Prop} (hg : o.guard = none) (t : TypeId) (x y : Operand) (ho : o.op = .build t #[(0, x), (1, y)]) (u v : Value) (hx : a.eval x = u) (hy : a.eval y = v) (cs : Array Value)
    (hb : P.built t [(0, u), (1, v)] = some cs) (h : wpList P ops Q rest (a.put o.dst (.agg cs)) w) : wpList P ops Q (o :: rest) a w :=
  wpList_build hg t #[(0, x), (1, y)] ho (by simp [hx, hy, hb]) (by simpa [hx, hy, hb] using h)
theorem range_key {w : World} {g : Nat} {b s : Int} {xs : List Int} {t : TypeId} (h : Row w g (wcells b s xs) t) : w.rangeAt g 0 [.int .i64 b, .int .i64 s] := by
  intro j v hv
  have : j = 0 ∨ j = 1 := by
    have := (List.getElem?_eq_some_iff.1 hv).1
    simp at this; omega
  rw [cell_of_row w g _ _ _ _ h]
  rcases this with rfl | rfl <;> simpa [wcells, pcell] using hv
theorem range_sec {w : World} {g : Nat} {b s : Int} {xs : List Int} {t : TypeId} (h : Row w g (wcells b s xs) t) : w.rangeAt g 2 (xs.map (Value.int .u8)) := by
  intro j v hv
  rw [cell_of_row w g _ _ _ _ h]
  simpa [wcells, pcell, Nat.add_comm 2 j] using hv
def placesOf (P : Program) (t : TypeId) : Option (List (Nat × Nat)) :=
  match P.underlying t with
  | some (.struct fields) => fields.toList.mapM (fun f => (P.info? f.type).map fun i => (f.offset, i.size))
  | _ => none
theorem built_struct {P : Program} {t : TypeId} {z : Value} {places : List (Nat × Nat)} (hi : (P.info? t).map (·.zero) = some (some z)) (hp : placesOf P t = some places) (parts : List (Nat × Value)) : P.built t parts = Instr.fill (places.toArray[·]?) z.cells parts := by
  unfold Program.built
  unfold placesOf at hp
  cases hq : P.info? t with
  | none => simp [hq] at hi
  | some it =>
    simp [hq] at hi
    split at hp
    · rename_i fields hu
      rw [hu]
      simp only [hi, hp]
    · cases hp
theorem splice_size {α : Type} (L : List α) (o : Nat) (r : List α) (h : o + r.length ≤ L.length) : (⟨splice L o r⟩ : Array α).size = L.length := by
  simp [splice]; omega
theorem spl_size (L : List Value) (o : Nat) (r : List Value) (n : Nat) (hn : L.length = n) (h : o + r.length ≤ n) : (⟨splice L o r⟩ : Array Value).size = n := by rw [splice_size _ _ _ (by omega), hn]
structure Fm where
  un : Bool
  no : Int
  p : List Int
  torn : Bool
  dirty : Bool
  first : Int
def Fm.cells (f : Fm) : List Value := .bool f.un :: .int .u16 f.no :: (f.p.map (Value.int .u8) ++ [.bool f.torn, .bool f.dirty, .int .u64 f.first])
def Fm.arr (f : Fm) : Array Value := f.cells.toArray
def Fm.zero : Fm := ⟨false, 0, zs 224, false, false, 0⟩
structure Fm.Ok (f : Fm) : Prop where
  len : f.p.length = 224
  by_ : Bytes f.p
  no : WfU f.no
  first : 0 ≤ f.first ∧ f.first ≤ 18446744073709551615
theorem Fm.cells_length {f : Fm} (h : f.p.length = 224) : f.cells.length = 229 := by simp [Fm.cells, h]
theorem Fm.arr_size {f : Fm} (h : f.p.length = 224) : f.arr.size = 229 := by simp [Fm.arr, Fm.cells_length h]
theorem Fm.one (f : Fm) : f.arr.all (·.oneCell') = true := by simp [Fm.arr, Fm.cells, Value.oneCell']
theorem Fm.zero_ok : Fm.zero.Ok := ⟨zs_length _, zs_bytes _, rfl, by show (0 : Int) ≤ 0 ∧ (0 : Int) ≤ _; omega⟩
def flatF (fs : List Fm) : List Value := fs.flatMap Fm.cells
theorem flatF_append (a b : List Fm) : flatF (a ++ b) = flatF a ++ flatF b := List.flatMap_append
theorem flatF_length : ∀ {fs : List Fm}, (∀ f ∈ fs, f.Ok) → (flatF fs).length = fs.length * 229
  | [], _ => rfl
  | f :: r, h => by
    have ih := flatF_length (fs := r) fun x hx => h x (List.mem_cons_of_mem _ hx)
    show (f.cells ++ flatF r).length = _
    rw [List.length_append, ih, Fm.cells_length (h f (List.mem_cons_self ..)).len, List.length_cons]; omega
theorem flatF_at : ∀ {fs : List Fm} (hl : ∀ f ∈ fs, f.Ok) (i j : Nat) (f : Fm), fs[i]? = some f → j < 229 → (flatF fs)[i * 229 + j]? = f.cells[j]?
  | [], _, i, j, b, h, _ => by simp at h
  | c :: r, hl, 0, j, b, h, hj => by
    simp at h; subst h
    show (c.cells ++ flatF r)[0 * 229 + j]? = _
    rw [Nat.zero_mul, Nat.zero_add, List.getElem?_append_left (by rw [Fm.cells_length (hl c (List.mem_cons_self ..)).len]; exact hj)]
  | c :: r, hl, i + 1, j, b, h, hj => by
    have hc := Fm.cells_length (hl c (List.mem_cons_self ..)).len
    show (c.cells ++ flatF r)[(i + 1) * 229 + j]? = _
    rw [List.getElem?_append_right (by rw [hc]; omega), hc, show (i + 1) * 229 + j - 229 = i * 229 + j by omega]
    exact flatF_at (fun d hd => hl d (List.mem_cons_of_mem _ hd)) i j b (by simpa using h) hj
theorem flatF_splice : ∀ {fs : List Fm} (hl : ∀ f ∈ fs, f.Ok) (i o : Nat) (f f' : Fm) (vs : List Value), fs[i]? = some f → o + vs.length ≤ 229 → splice f.cells o vs = f'.cells → splice (flatF fs) (i * 229 + o) vs = flatF (fs.set i f')
  | [], _, i, o, f, f', vs, h, _, _ => by simp at h
  | c :: r, hl, 0, o, f, f', vs, h, ho, he => by
    simp at h; subst h
    have hc := Fm.cells_length (hl c (List.mem_cons_self ..)).len
    show splice (c.cells ++ flatF r) (0 * 229 + o) vs = f'.cells ++ flatF r
    rw [Nat.zero_mul, Nat.zero_add, ← he]
    unfold splice
    rw [List.take_append_of_le_length (by omega), List.drop_append_of_le_length (by omega)]
    simp
  | c :: r, hl, i + 1, o, f, f', vs, h, ho, he => by
    have hc := Fm.cells_length (hl c (List.mem_cons_self ..)).len
    have ih := flatF_splice (fun d hd => hl d (List.mem_cons_of_mem _ hd)) i o f f' vs (by simpa using h) ho he
    show splice (c.cells ++ flatF r) ((i + 1) * 229 + o) vs = c.cells ++ flatF (r.set i f')
    rw [← ih]
    unfold splice
    have e1 : (i + 1) * 229 + o = c.cells.length + (i * 229 + o) := by omega
    rw [e1, List.take_length_add_append, Nat.add_assoc, List.drop_length_add_append, List.append_assoc]
theorem size122 : (Try.prog.info? 122).map (·.size) = some 229 := by kernel_rfl
theorem size31 : (Try.prog.info? 31).map (·.size) = some 2 := by kernel_rfl
theorem zero122 (w : World) : (zeroValue 122).run Try.prog w = .ok (.agg Fm.zero.arr) w := (zero_of_info (P := Try.prog) (t := 122) (v := .agg Fm.zero.arr) (n := 229) (by kernel_rfl)).1 w
theorem info122 : (Try.prog.info? 122).map (fun i => (i.zero, i.size, i.bytes)) = some (some (.agg Fm.zero.arr), 229, 240) := by kernel_rfl
theorem zeroOf122 : (Try.prog.info? 122).map (·.zero) = some (some (.agg Fm.zero.arr)) := by kernel_rfl
theorem places122 : placesOf Try.prog 122 = some [(0, 2), (2, 224), (226, 1), (227, 1), (228, 1)] := by kernel_rfl
theorem fz : Fm.zero.arr.size = 229 := Fm.arr_size (zs_length _)
theorem built122_none : Try.prog.built 122 [] = some Fm.zero.arr := by
  rw [built_struct zeroOf122 places122]; rfl
theorem splice_right {α : Type} (A B vs : List α) (o : Nat) : splice (A ++ B) (A.length + o) vs = A ++ splice B o vs := by
  unfold splice
  rw [List.take_length_add_append, Nat.add_assoc, List.drop_length_add_append, List.append_assoc]
theorem splice_head {α : Type} (P P' T : List α) (h : P'.length = P.length) : splice (P ++ T) 0 P' = P' ++ T := by
  unfold splice
  rw [List.take_zero, List.nil_append, Nat.zero_add, h, List.drop_left]
def Fm.pre (f : Fm) : List Value := [.bool f.un, .int .u16 f.no] ++ f.p.map (Value.int .u8)
theorem Fm.cells_pre (f : Fm) : f.cells = f.pre ++ [.bool f.torn, .bool f.dirty, .int .u64 f.first] := by simp [Fm.cells, Fm.pre]
theorem Fm.pre_length {f : Fm} (h : f.p.length = 224) : f.pre.length = 226 := by simp [Fm.pre, h]
theorem cells_torn {f : Fm} (h : f.p.length = 224) (t : Bool) : splice f.cells 226 [.bool t] = Fm.cells { f with torn := t } := by
  have := splice_right f.pre [.bool f.torn, .bool f.dirty, .int .u64 f.first] [.bool t] 0
  rw [Fm.pre_length h] at this
  rw [f.cells_pre, this, Fm.cells_pre]; rfl
theorem cells_dirty {f : Fm} (h : f.p.length = 224) (t : Bool) : splice f.cells 227 [.bool t] = Fm.cells { f with dirty := t } := by
  have := splice_right f.pre [.bool f.torn, .bool f.dirty, .int .u64 f.first] [.bool t] 1
  rw [Fm.pre_length h] at this
  rw [f.cells_pre, this, Fm.cells_pre]; rfl
theorem cells_first {f : Fm} (h : f.p.length = 224) (x : Int) : splice f.cells 228 [.int .u64 x] = Fm.cells { f with first := x } := by
  have := splice_right f.pre [.bool f.torn, .bool f.dirty, .int .u64 f.first] [.int .u64 x] 2
  rw [Fm.pre_length h] at this
  rw [f.cells_pre, this, Fm.cells_pre]; rfl
theorem cells_pay {f : Fm} (h : f.p.length = 224) (b : List Int) (hb : b.length = 224) : splice f.cells 2 (b.map (Value.int .u8)) = Fm.cells { f with p := b } := by
  have := splice_right [.bool f.un, .int .u16 f.no] (f.p.map (Value.int .u8) ++ [.bool f.torn, .bool f.dirty, .int .u64 f.first]) (b.map (Value.int .u8)) 0
  show splice ([.bool f.un, .int .u16 f.no] ++ (f.p.map (Value.int .u8) ++ [.bool f.torn, .bool f.dirty, .int .u64 f.first])) (2 + 0) (b.map (Value.int .u8)) = _
  rw [show 2 + 0 = ([.bool f.un, .int .u16 f.no] : List Value).length + 0 from rfl, this, splice_head _ _ _ (by rw [List.length_map, List.length_map, h, hb])]
  rfl
theorem cells_id (f : Fm) (u : Bool) (k : Int) : splice f.cells 0 [.bool u, .int .u16 k] = Fm.cells { f with un := u, no := k } := rfl
theorem built122_two (u : Bool) (k : Int) (b : List Int) (hb : b.length = 224) : Try.prog.built 122 [(0, idv u k), (1, .agg (bs b))] = some (Fm.mk u k b false false 0).arr := by
  rw [built_struct zeroOf122 places122]
  have z : (Value.agg Fm.zero.arr).cells = Fm.zero.arr := rfl
  have z0 : Fm.zero.arr.toList.length = 229 := by rw [Array.length_toList]; exact fz
  rw [z, fill_step _ _ 0 (idv u k) _ 0 2 rfl rfl (by rw [fz]; omega), fill_step _ _ 1 (.agg (bs b)) _ 2 224 rfl (by show (bs b).size = 224; rw [bs_size, hb]) (by rw [spl_size _ _ _ 229 z0 (by show 0 + 2 ≤ 229; omega)]; omega)]
  unfold Instr.fill
  congr 1
  unfold Fm.arr
  apply congrArg
  show splice (splice Fm.zero.cells 0 [.bool u, .int .u16 k]) 2 (b.map (Value.int .u8)) = _
  rw [cells_id, cells_pay (zs_length _) b hb]
  rfl
theorem built122_torn (u : Bool) (k : Int) (b : List Int) (hb : b.length = 224) : Try.prog.built 122 [(0, idv u k), (1, .agg (bs b)), (2, .bool true)] = some (Fm.mk u k b true false 0).arr := by
  rw [built_struct zeroOf122 places122]
  have z : (Value.agg Fm.zero.arr).cells = Fm.zero.arr := rfl
  have z0 : Fm.zero.arr.toList.length = 229 := by rw [Array.length_toList]; exact fz
  have z1 : (splice Fm.zero.arr.toList 0 (idv u k).cells.toList).length = 229 := by have := spl_size Fm.zero.arr.toList 0 (idv u k).cells.toList 229 z0 (by show 0 + 2 ≤ 229; omega); simpa using this
  rw [z, fill_step _ _ 0 (idv u k) _ 0 2 rfl rfl (by rw [fz]; omega), fill_step _ _ 1 (.agg (bs b)) _ 2 224 rfl (by show (bs b).size = 224; rw [bs_size, hb]) (by rw [spl_size _ _ _ 229 z0 (by show 0 + 2 ≤ 229; omega)]; omega),
    fill_step _ _ 2 (.bool true) _ 226 1 rfl rfl (by rw [spl_size _ _ _ 229 z1 (by show 2 + (bs b).toList.length ≤ 229; rw [Array.length_toList, bs_size, hb]; omega)]; omega)]
  unfold Instr.fill
  congr 1
  unfold Fm.arr
  apply congrArg
  show splice (splice (splice Fm.zero.cells 0 [.bool u, .int .u16 k]) 2 (b.map (Value.int .u8))) 226 [.bool true] = _
  rw [cells_id, cells_pay (zs_length _) b hb, cells_torn hb]
  rfl
theorem cwithin_any (i a b : Int) (w : World) : Calls Try.prog 61 #[.int .i64 i, .int .i64 a, .int .i64 b] w fun e w' => e = .returned (.bool (decide (a ≤ i ∧ i ≤ b))) ∧ w' = w := by
  by_cases h : i ≥ a
  · by_cases k : i ≤ b
    · have e : decide (a ≤ i ∧ i ≤ b) = true := decide_eq_true ⟨h, k⟩
      rw [e]
      go_enter Try.func61, Try.ntmps61
      go_wp2
      go_ret
      exact ⟨rfl, rfl⟩
    · have e : decide (a ≤ i ∧ i ≤ b) = false := decide_eq_false fun q => k q.2
      rw [e]
      go_enter Try.func61, Try.ntmps61
      go_wp2
      go_ret
      exact ⟨rfl, rfl⟩
  · have e : decide (a ≤ i ∧ i ≤ b) = false := decide_eq_false fun q => h q.1
    rw [e]
    go_enter Try.func61, Try.ntmps61
    go_wp2
    go_ret
    exact ⟨rfl, rfl⟩
def placeC (pages : Int) (u : Bool) (k : Int) : Int := if u = true then 2 + pages + k else 2 + k
theorem wfu {k : Int} (h : WfU k) : 0 ≤ k ∧ k ≤ 65535 := by
  unfold WfU at h
  have e : (Lit.int .u16 k).wf = (decide ((0 : Int) ≤ k) && decide (k ≤ 65535)) := rfl
  rw [e] at h; simpa using h
theorem cplace_any (pages : Int) (hp : 0 ≤ pages ∧ pages ≤ 1000) (u : Bool) (k : Int) (hk : WfU k) (w : World) : Calls Try.prog 29 #[.int .i64 pages, idv u k] w fun e w' => e = .returned (.int .i64 (placeC pages u k)) ∧ Below w.heap.size w w' := by
  have hb := wfu hk
  have r0 : Row (w.alloc (.cells #[.bool u, .int .u16 k] 31)) w.heap.size #[.bool u, .int .u16 k] 31 := Row.new _ _ _
  have ab : Below w.heap.size w (w.alloc (.cells #[.bool u, .int .u16 k] 31)) := (Below.refl _ _).alloc (Nat.le_refl _) _
  have e0 := row_at r0 0 _ rfl
  have e1 := row_at r0 1 _ rfl
  have w0 : IntKind.i64.wrap k = k := by rw [IntKind.wrap_i64]; omega
  have w1 : IntKind.i64.wrap (2 + pages) = 2 + pages := by rw [IntKind.wrap_i64]; omega
  have w2 : IntKind.i64.wrap (2 + pages + k) = 2 + pages + k := by rw [IntKind.wrap_i64]; omega
  have w3 : IntKind.i64.wrap (2 + k) = 2 + k := by rw [IntKind.wrap_i64]; omega
  unfold idv
  cases u with
  | true =>
    go_enter Try.func29, Try.ntmps29
    go_wp2
    go_ret
    exact ⟨rfl, ab⟩
  | false =>
    go_enter Try.func29, Try.ntmps29
    go_wp2
    go_ret
    exact ⟨rfl, ab⟩
theorem wp_update {P : Program} {o : Oper} {a : Act} {w : World} {K : Act → World → Prop} {Q : Exit → Act → World → Prop} (t : TypeId) (m x y : Operand) (ho : o.op = .mapUpdate t m x y) (mv kv vv : Value) (hm : a.eval m = mv) (hx : a.eval x = kv) (hy : a.eval y = vv)
    (w' : World) (hr : (Instr.mapUpdate t mv kv vv).run P w = .ok () w') (h : K (a.put o.dst undef) w') : Oper.wp P o a w K Q := by
  unfold Oper.wp
  simp [execOp, ho, hm, hx, hy, hr, Result.andThen]
  exact h
theorem bytes136 : ∃ i, Try.prog.info? 136 = some i ∧ i.zero = some (.agg (wcells 0 0 (zs 64))) ∧ i.size = 66 ∧ i.bytes = 80 := by
  have h := info136
  cases hq : Try.prog.info? 136 with
  | none => simp [hq] at h
  | some i => simp [hq] at h; exact ⟨i, rfl, h⟩
theorem wp_slice_one {o : Oper} {a : Act} {w : World} {K : Act → World → Prop} {Q : Exit → Act → World → Prop} (x : Operand) (ho : o.op = .buildSlice 85 1 #[(0, x)]) (b s : Int) (xs : List Int) (hl : xs.length = 64) (hx : a.eval x = .agg (wcells b s xs))
    (h : K (a.put o.dst (.slice (some ⟨w.heap.size, 0, none⟩) 1 1)) (w.alloc (.cells (wcells b s xs) 136))) : Oper.wp Try.prog o a w K Q := by
  obtain ⟨i, hi, hz, hs, _⟩ := bytes136
  refine wp_buildSlice 85 136 1 _ ho (wcells b s xs) i _ Try.underlying85 hi hz (by rw [hs]; decide) (by rw [hs]; decide) ?_ h
  have e1 : (#[(0, x)].map fun (i, x) => (i, a.eval x)).toList = [(0, .agg (wcells b s xs))] := by simp [hx]
  rw [e1, fill_step _ _ 0 (.agg (wcells b s xs)) _ 0 66 (by simp [hs]) (wcells_size b s xs hl) (by simp [hs])]
  unfold Instr.fill
  congr 1
  show (⟨splice _ 0 (wcells b s xs).toList⟩ : Array Value) = wcells b s xs
  have hc : (wcells b s xs).toList.length = 66 := by simpa using wcells_size b s xs hl
  unfold splice
  rw [List.drop_of_length_le (by rw [hc]; simp [hs])]
  simp
theorem pcells_snoc (l : List (Int × Int × List Int)) (q : Int × Int × List Int) : pcells (l ++ [q]) = pcells l ++ pcell q := by simp [pcells]
theorem pcell_one (q : Int × Int × List Int) : ∀ u ∈ pcell q, u.oneCell' = true := by
  intro u hu
  unfold pcell at hu
  simp at hu
  rcases hu with rfl | rfl | ⟨x, _, rfl⟩ <;> rfl
theorem wp_append_write {o : Oper} {a : Act} {w : World} {K : Act → World → Prop} {Q : Exit → Act → World → Prop} (s x : Operand) (ho : o.op = .call { callee := .builtin .append, args := #[s, x], argTypes := #[85, 85] })
    (g : Nat) (p : Value) (l : List (Int × Int × List Int)) (hs : a.eval s = p) (hown : w.ownsRow (g + 1) 136 66 p l.length (pcells l)) (Z : Nat) (q : Int × Int × List Int) (hx : a.eval x = .slice (some ⟨Z, 0, none⟩) 1 1)
    (hZ : Row w Z (pcell q).toArray 136) (hq : q.2.2.length = 64) (hl : l.length < 1000000000000) (hb : g + 1 ≤ w.heap.size)
    (h : ∀ r n cap w', w'.ownsRow (g + 1) 136 66 (.slice (some ⟨r, 0, none⟩) n cap) (l ++ [q]).length (pcells (l ++ [q])) → w.grownBy w' p.ownBlock → ((Value.slice (some ⟨r, 0, none⟩) n cap).ownBlock = p.ownBlock ∨ (Value.slice (some ⟨r, 0, none⟩) n cap).ownBlock = some w.heap.size) → K (a.put o.dst (.slice (some ⟨r, 0, none⟩) n cap)) w') : Oper.wp Try.prog o a w K Q := by
  obtain ⟨i, hi, hz, hsz, hby⟩ := bytes136
  obtain ⟨p', w', hr, h2, h3, h4, h5⟩ := run_append_own_at (P := Try.prog) w (g + 1) 85 o.type 136 i _ 66 80 Try.underlying85 hi hz hsz hby (wcells_size _ _ _ (zs_length 64)) (by decide) p l.length (pcells l) hown ⟨Z, 0, none⟩ 1 1 (pcell q)
    (by simp [pcell, hq]) (fun j u hj => by rw [Addr.add_mid, Nat.zero_add, cell_of_row w Z _ _ _ _ hZ]; simpa using hj) (pcell_one q) (by unfold maxLen; omega) (by omega) hb
  unfold Oper.wp execOp
  simp only [ho, resolve, invoke, builtin, Sem.run_bind, Sem.run_pure, Result.andThen_ok, List.map_toArray, List.map_cons, List.map_nil, hs, hx, hr]
  have h2' : w'.ownsRow (g + 1) 136 66 p' (l ++ [q]).length (pcells (l ++ [q])) := by rw [pcells_snoc, List.length_append]; exact h2
  rcases h2.2 with ⟨_, e0⟩ | ⟨r, cap, cur, rfl, _⟩
  · omega
  · exact h r _ cap w' h2' h3 h5
theorem row_drew {w : World} {g : Nat} {cs : Array Value} {t : TypeId} (h : Row w g cs t) : Row w.drew g cs t := h
theorem pcell_length (b s : Int) (xs : List Int) (h : xs.length = 64) : (pcell (b, s, xs)).length = 66 := by simp [pcell, h]
theorem range_all {w : World} {g : Nat} {b s : Int} {xs : List Int} {t : TypeId} (h : Row w g (wcells b s xs) t) : w.rangeAt g 0 (pcell (b, s, xs)) := by
  intro j v hv
  rw [cell_of_row w g _ _ _ _ h, Nat.zero_add]
  simpa [wcells] using hv
def Dsk.push (d : Dsk) (q : Int × Int × List Int) : Dsk := { d with pend := d.pend ++ [q] }
theorem DAt.push {w w' : World} {g : Nat} {d : Dsk} {L : Loc} {N : Nat} (h : DAt w g d L N) (q : Int × Int × List Int) (hq : 0 ≤ q.1 ∧ q.1 < d.n ∧ 0 ≤ q.2.1 ∧ q.2.1 < 4 ∧ Sec q.2.2) (p' : Value) (hN : N + 1 < 1000000000000)
    (row : Row w' g (dcells d { L with p := p' }) 88) (fresh : SMap w' L.b (d.pend.length + 1) ((over (fun _ _ => none) d.pend).put q.1 q.2.1 q.2.2))
    (pend : w'.ownsRow (g + 1) 136 66 p' (d.pend ++ [q]).length (pcells (d.pend ++ [q]))) (ha : w'.heap[L.a]? = w.heap[L.a]?) (hf : ∀ m, L.f = .map (some m) → w'.heap[m]? = w.heap[m]?) : DAt w' g (d.push q) { L with p := p' } (N + 1) where
  row := row
  sure := by
    obtain ⟨s, hs, hle⟩ := h.sure
    exact ⟨s, hs.kept ha, by simp [Dsk.push]; omega⟩
  fresh := by
    have e : over (fun _ _ => none) (d.pend ++ [q]) = (over (fun _ _ => none) d.pend).put q.1 q.2.1 q.2.2 := by rw [over_append]; rfl
    show SMap w' L.b (d.pend ++ [q]).length (over (fun _ _ => none) (d.pend ++ [q]))
    rw [e, List.length_append]; exact fresh
  ab := h.ab
  pend := pend
  fails := h.fails.kept fun m e _ => hf m e
  fa := h.fa
  fb := h.fb
  big := hN
  okp := by
    intro r hr
    rcases List.mem_append.1 hr with hr | hr
    · exact h.okp r hr
    · simp at hr; subst hr; exact hq
  small := h.small
  opsn := h.opsn
  fusew := h.fusew
theorem DAt.pf {w : World} {g : Nat} {d : Dsk} {L : Loc} {N : Nat} (h : DAt w g d L N) {m : Nat} (e : L.f = .map (some m)) : L.p.ownBlock ≠ some m ∧ m < w.heap.size := by
  rcases h.fails with ⟨q, _⟩ | ⟨m', n, D, q, hD, _⟩
  · rw [q] at e; cases e
  · rw [q] at e; cases e
    have hl := hD.lt
    obtain ⟨es, clock, hb, _⟩ := hD
    exact ⟨h.pm hb, hl⟩
theorem write_after {w w3 w4 w6 : World} {g : Nat} {d : Dsk} {L : Loc} {N : Nat} {F0 : Nat → Prop} (D3 : DAt w3 g d L N) (q : Int × Int × List Int) (hq : 0 ≤ q.1 ∧ q.1 < d.n ∧ 0 ≤ q.2.1 ∧ q.2.1 < 4 ∧ Sec q.2.2) (hN : N + 1 < 1000000000000)
    (g4 : w3.grownBy w4 (some L.b)) (m4 : SMap w4 L.b (d.pend.length + 1) ((over (fun _ _ => none) d.pend).put q.1 q.2.1 q.2.2)) (p' : Value)
    (hp6 : w6.ownsRow (g + 1) 136 66 p' (d.pend ++ [q]).length (pcells (d.pend ++ [q]))) (hg6 : (w4.drew.alloc (.cells (pcell q).toArray 136)).grownBy w6 L.p.ownBlock) (hl6 : p'.ownBlock = L.p.ownBlock ∨ p'.ownBlock = some (w4.drew.alloc (.cells (pcell q).toArray 136)).heap.size)
    (X Y : Nat) (x : List Int) (cY : Array Value) (rX : Row w3 X (bs x) 41) (rY : Row w3 Y cY 136) (hY : ¬ foot g L Y) (hX : ¬ foot g L X) (O3 : Off F0 w w3) (HF : ∀ j, foot g L j → F0 j ∨ w.heap.size ≤ j) :
    w6.cell? ⟨g, 3, none⟩ = some L.p ∧ w6.frozen? ⟨g, 3, none⟩ = false ∧ Row w6 Y cY 136 ∧ DAt (w6.setCell ⟨g, 3, none⟩ p') g (d.push q) { L with p := p' } (N + 1) ∧ Row (w6.setCell ⟨g, 3, none⟩ p') X (bs x) 41 ∧
      Off F0 w (w6.setCell ⟨g, 3, none⟩ p') ∧ (∀ j, foot g { L with p := p' } j → F0 j ∨ w.heap.size ≤ j) := by
  have h36 : ∀ j, j < w3.heap.size → j ≠ L.b → L.p.ownBlock ≠ some j → w6.heap[j]? = w3.heap[j]? := fun j hj hb hp => by
    have hj4 : j < w4.heap.size := Nat.lt_of_lt_of_le hj g4.size
    rw [hg6.block j (by simp; omega) (fun e => hp e.symm), Below.heap_alloc _ _ _ (show j < w4.drew.heap.size from hj4)]
    exact g4.block j hj (fun e => hb (by cases e; rfl))
  have h37 : ∀ j, j < w3.heap.size → j ≠ L.b → L.p.ownBlock ≠ some j → j ≠ g → (w6.setCell ⟨g, 3, none⟩ p').heap[j]? = w3.heap[j]? := fun j hj hb hp hg => by
    rw [Below.heap_setCell _ _ _ _ hg]; exact h36 j hj hb hp
  have hbl : L.b < w3.heap.size := D3.fresh.lt
  have hal : L.a < w3.heap.size := D3.lt (Or.inr (Or.inl rfl))
  have row6 : Row w6 g (dcells d L) 88 := by
    have := D3.row
    unfold Row at this ⊢
    rw [h36 g D3.row.lt D3.bg.symm D3.pg]; exact this
  have r6Y : Row w6 Y cY 136 := by
    have := rY
    unfold Row at this ⊢
    rw [h36 Y rY.lt (fun e => hY (Or.inr (Or.inr (Or.inl e)))) (fun e => hY (Or.inr (Or.inr (Or.inr (Or.inl e)))))]; exact this
  have r7X : Row (w6.setCell ⟨g, 3, none⟩ p') X (bs x) 41 := by
    have := rX
    unfold Row at this ⊢
    rw [h37 X rX.lt (fun e => hX (Or.inr (Or.inr (Or.inl e)))) (fun e => hX (Or.inr (Or.inr (Or.inr (Or.inl e))))) (fun e => hX (Or.inl e))]; exact this
  have hs6 : w3.heap.size ≤ w6.heap.size := by
    have := hg6.size
    simp at this
    have := g4.size
    omega
  refine ⟨row_at row6 3 L.p rfl, row_frozen row6 3, r6Y, D3.push q hq p' hN (row_set row6 3 p') ?_ ?_ ?_ ?_, r7X, ?_, ?_⟩
  · refine m4.kept ?_
    rw [Below.heap_setCell _ _ _ _ D3.bg, hg6.block L.b (by simp; have := m4.lt; omega) (fun e => D3.pb e.symm), Below.heap_alloc _ _ _ (show L.b < w4.drew.heap.size from m4.lt)]; rfl
  · exact ownsRow_kept hp6 fun j e _ => Below.heap_setCell _ _ _ _ (fun e2 => by have := (hp6.lt j e).1; simp at e2; omega)
  · exact h37 L.a hal D3.ab D3.pa D3.ag
  · intro m e
    obtain ⟨h1, h2⟩ := D3.pf e
    exact h37 m h2 (fun e2 => D3.fb (e2 ▸ e)) h1 (fun e2 => D3.fg (e2 ▸ e))
  · refine ⟨?_, ?_, ?_, Nat.le_trans O3.size (by simpa [World.setCell] using hs6), fun j hj hn => ?_⟩
    · exact (hg6.os.trans g4.os).trans O3.os
    · exact (hg6.tape.trans g4.tape).trans O3.tape
    · exact (hg6.output.trans g4.output).trans O3.output
    · have nf : ¬ foot g L j := fun q => by
        rcases HF j q with q | q
        · exact hn q
        · omega
      rw [h37 j (Nat.lt_of_lt_of_le hj O3.size) (fun e => nf (Or.inr (Or.inr (Or.inl e)))) (fun e => nf (Or.inr (Or.inr (Or.inr (Or.inl e))))) (fun e => nf (Or.inl e))]
      exact O3.block j hj hn
  · rintro j (rfl | rfl | rfl | e | e)
    · exact HF _ (Or.inl rfl)
    · exact HF _ (Or.inr (Or.inl rfl))
    · exact HF _ (Or.inr (Or.inr (Or.inl rfl)))
    · rcases hl6 with q | q
      · exact HF _ (Or.inr (Or.inr (Or.inr (Or.inl (q ▸ e)))))
      · right
        have e' : p'.ownBlock = some j := e
        rw [q] at e'
        cases e'
        simp
        have := g4.size
        have := O3.size
        omega
    · exact HF _ (Or.inr (Or.inr (Or.inr (Or.inr e))))
end Go.Proofs.Ytehogiondcpbcaa
