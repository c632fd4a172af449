/-
  Plain facts: a page in a frame, as it lies in memory. Proved here: cache.Place, cache.within. Plain facts for regions: a store into a map, a slice of one struct, an append to a slice of structs. Proved here: a round of disk.Write: one sector is laidD over the fresh ones, and stands behind the pending ones. Proved here: what disk.Write answers and leaves. Proved here: disk.Write where it is refused; that what was written is read (the statements' own fixed run). Proved here: what the calls of a disk that is not there answer.
-/
import Derived.Test.YtehogiondcpbcaaJq02
import Derived.Test.YtehogiondcpbcaaJq03
import Derived.Test.YtehogiondcpbcaaJq01
import Derived.Great.BuildSlice
import Derived.Maps.AppendAt
namespace Go.Proofs.Ytehogiondcpbcaa
open Go.ChangeShapes Go.WideShapes Go.ChangeAt Go.RowKit
set_option linter.unusedVariables false
set_option linter.unusedSimpArgs false
set_option maxRecDepth 20000
def placesOf (P : Program) (t : TypeId) : Option (List (Nat × Nat)) :=
  match P.underlying t with
  | some (.struct fields) => fields.toList.mapM (fun f => (P.info? f.type).map fun i => (f.offset, i.size))
  | _ => none
theorem built_struct {P : Program} {t : TypeId} {z : Value} {places : List (Nat × Nat)} (hi : (P.info? t).map (·.zero) = some (some z)) (hp : placesOf P t = some places) (parts : List (Nat × Value)) : P.built t parts = Instr.fill (places.toArray[·]?) z.cells parts := by
  unfold Program.built
  unfold placesOf at hp
  cases hq : P.info? t with
  | none => simp [hq] at hi
  | some it =>
    simp [hq] at hi
    split at hp
    · rename_i fields hu
      rw [hu]
      simp only [hi, hp]
    · cases hp
theorem splice_size {α : Type} (L : List α) (o : Nat) (r : List α) (h : o + r.length ≤ L.length) : (⟨splice L o r⟩ : Array α).size = L.length := by
  simp [splice]; omega
theorem spl_size (L : List Value) (o : Nat) (r : List Value) (n : Nat) (hn : L.length = n) (h : o + r.length ≤ n) : (⟨splice L o r⟩ : Array Value).size = n := by rw [splice_size _ _ _ (by omega), hn]
structure Fm where
  un : Bool
  no : Int
  p : List Int
  torn : Bool
  dirty : Bool
  first : Int
def Fm.cells (f : Fm) : List Value := .bool f.un :: .int .u16 f.no :: (f.p.map (Value.int .u8) ++ [.bool f.torn, .bool f.dirty, .int .u64 f.first])
def Fm.arr (f : Fm) : Array Value := f.cells.toArray
def Fm.zero : Fm := ⟨false, 0, zs 224, false, false, 0⟩
structure Fm.Ok (f : Fm) : Prop where
  len : f.p.length = 224
  by_ : Bytes f.p
  no : WfU f.no
  first : 0 ≤ f.first ∧ f.first ≤ 18446744073709551615
theorem Fm.cells_length {f : Fm} (h : f.p.length = 224) : f.cells.length = 229 := by simp [Fm.cells, h]
theorem Fm.arr_size {f : Fm} (h : f.p.length = 224) : f.arr.size = 229 := by simp [Fm.arr, Fm.cells_length h]
theorem Fm.one (f : Fm) : f.arr.all (·.oneCell') = true := by simp [Fm.arr, Fm.cells, Value.oneCell']
theorem Fm.zero_ok : Fm.zero.Ok := ⟨zs_length _, zs_bytes _, rfl, by show (0 : Int) ≤ 0 ∧ (0 : Int) ≤ _; omega⟩
def flatF (fs : List Fm) : List Value := fs.flatMap Fm.cells
theorem flatF_append (a b : List Fm) : flatF (a ++ b) = flatF a ++ flatF b := List.flatMap_append
theorem flatF_length : ∀ {fs : List Fm}, (∀ f ∈ fs, f.Ok) → (flatF fs).length = fs.length * 229
  | [], _ => rfl
  | f :: r, h => by
    have ih := flatF_length (fs := r) fun x hx => h x (List.mem_cons_of_mem _ hx)
    show (f.cells ++ flatF r).length = _
    rw [List.length_append, ih, Fm.cells_length (h f (List.mem_cons_self ..)).len, List.length_cons]; omega
theorem flatF_at : ∀ {fs : List Fm} (hl : ∀ f ∈ fs, f.Ok) (i j : Nat) (f : Fm), fs[i]? = some f → j < 229 → (flatF fs)[i * 229 + j]? = f.cells[j]?
  | [], _, i, j, b, h, _ => by simp at h
  | c :: r, hl, 0, j, b, h, hj => by
    simp at h; subst h
    show (c.cells ++ flatF r)[0 * 229 + j]? = _
    rw [Nat.zero_mul, Nat.zero_add, List.getElem?_append_left (by rw [Fm.cells_length (hl c (List.mem_cons_self ..)).len]; exact hj)]
  | c :: r, hl, i + 1, j, b, h, hj => by
    have hc := Fm.cells_length (hl c (List.mem_cons_self ..)).len
    show (c.cells ++ flatF r)[(i + 1) * 229 + j]? = _
    rw [List.getElem?_append_right (by rw [hc]; omega), hc, show (i + 1) * 229 + j - 229 = i * 229 + j by omega]
    exact flatF_at (fun d hd => hl d (List.mem_cons_of_mem _ hd)) i j b (by simpa using h) hj
theorem flatF_splice : ∀ {fs : List Fm} (hl : ∀ f ∈ fs, f.Ok) (i o : Nat) (f f' : Fm) (vs : List Value), fs[i]? = some f → o + vs.length ≤ 229 → splice f.cells o vs = f'.cells → splice (flatF fs) (i * 229 + o) vs = flatF (fs.set i f')
  | [], _, i, o, f, f', vs, h, _, _ => by simp at h
  | c :: r, hl, 0, o, f, f', vs, h, ho, he => by
    simp at h; subst h
    have hc := Fm.cells_length (hl c (List.mem_cons_self ..)).len
    show splice (c.cells ++ flatF r) (0 * 229 + o) vs = f'.cells ++ flatF r
    rw [Nat.zero_mul, Nat.zero_add, ← he]
    unfold splice
    rw [List.take_append_of_le_length (by omega), List.drop_append_of_le_length (by omega)]
    simp
  | c :: r, hl, i + 1, o, f, f', vs, h, ho, he => by
    have hc := Fm.cells_length (hl c (List.mem_cons_self ..)).len
    have ih := flatF_splice (fun d hd => hl d (List.mem_cons_of_mem _ hd)) i o f f' vs (by simpa using h) ho he
    show splice (c.cells ++ flatF r) ((i + 1) * 229 + o) vs = c.cells ++ flatF (r.set i f')
    rw [← ih]
    unfold splice
    have e1 : (i + 1) * 229 + o = c.cells.length + (i * 229 + o) := by omega
    rw [e1, List.take_length_add_append, Nat.add_assoc, List.drop_length_add_append, List.append_assoc]
theorem size122 : (Try.prog.info? 122).map (·.size) = some 229 := by kernel_rfl
theorem size31 : (Try.prog.info? 31).map (·.size) = some 2 := by kernel_rfl
theorem zero122 (w : World) : (zeroValue 122).run Try.prog w = .ok (.agg Fm.zero.arr) w := (zero_of_info (P := Try.prog) (t := 122) (v := .agg Fm.zero.arr) (n := 229) (by kernel_rfl)).1 w
theorem info122 : (Try.prog.info? 122).map (fun i => (i.zero, i.size, i.bytes)) = some (some (.agg Fm.zero.arr), 229, 240) := by kernel_rfl
theorem zeroOf122 : (Try.prog.info? 122).map (·.zero) = some (some (.agg Fm.zero.arr)) := by kernel_rfl
theorem places122 : placesOf Try.prog 122 = some [(0, 2), (2, 224), (226, 1), (227, 1), (228, 1)] := by kernel_rfl
theorem fz : Fm.zero.arr.size = 229 := Fm.arr_size (zs_length _)
theorem built122_none : Try.prog.built 122 [] = some Fm.zero.arr := by
  rw [built_struct zeroOf122 places122]; rfl
theorem splice_right {α : Type} (A B vs : List α) (o : Nat) : splice (A ++ B) (A.length + o) vs = A ++ splice B o vs := by
  unfold splice
  rw [List.take_length_add_append, Nat.add_assoc, List.drop_length_add_append, List.append_assoc]
theorem splice_head {α : Type} (P P' T : List α) (h : P'.length = P.length) : splice (P ++ T) 0 P' = P' ++ T := by
  unfold splice
  rw [List.take_zero, List.nil_append, Nat.zero_add, h, List.drop_left]
def Fm.pre (f : Fm) : List Value := [.bool f.un, .int .u16 f.no] ++ f.p.map (Value.int .u8)
theorem Fm.cells_pre (f : Fm) : f.cells = f.pre ++ [.bool f.torn, .bool f.dirty, .int .u64 f.first] := by simp [Fm.cells, Fm.pre]
theorem Fm.pre_length {f : Fm} (h : f.p.length = 224) : f.pre.length = 226 := by simp [Fm.pre, h]
theorem cells_torn {f : Fm} (h : f.p.length = 224) (t : Bool) : splice f.cells 226 [.bool t] = Fm.cells { f with torn := t } := by
  have := splice_right f.pre [.bool f.torn, .bool f.dirty, .int .u64 f.first] [.bool t] 0
  rw [Fm.pre_length h] at this
  rw [f.cells_pre, this, Fm.cells_pre]; rfl
theorem cells_dirty {f : Fm} (h : f.p.length = 224) (t : Bool) : splice f.cells 227 [.bool t] = Fm.cells { f with dirty := t } := by
  have := splice_right f.pre [.bool f.torn, .bool f.dirty, .int .u64 f.first] [.bool t] 1
  rw [Fm.pre_length h] at this
  rw [f.cells_pre, this, Fm.cells_pre]; rfl
theorem cells_first {f : Fm} (h : f.p.length = 224) (x : Int) : splice f.cells 228 [.int .u64 x] = Fm.cells { f with first := x } := by
  have := splice_right f.pre [.bool f.torn, .bool f.dirty, .int .u64 f.first] [.int .u64 x] 2
  rw [Fm.pre_length h] at this
  rw [f.cells_pre, this, Fm.cells_pre]; rfl
theorem cells_pay {f : Fm} (h : f.p.length = 224) (b : List Int) (hb : b.length = 224) : splice f.cells 2 (b.map (Value.int .u8)) = Fm.cells { f with p := b } := by
  have := splice_right [.bool f.un, .int .u16 f.no] (f.p.map (Value.int .u8) ++ [.bool f.torn, .bool f.dirty, .int .u64 f.first]) (b.map (Value.int .u8)) 0
  show splice ([.bool f.un, .int .u16 f.no] ++ (f.p.map (Value.int .u8) ++ [.bool f.torn, .bool f.dirty, .int .u64 f.first])) (2 + 0) (b.map (Value.int .u8)) = _
  rw [show 2 + 0 = ([.bool f.un, .int .u16 f.no] : List Value).length + 0 from rfl, this, splice_head _ _ _ (by rw [List.length_map, List.length_map, h, hb])]
  rfl
theorem cells_id (f : Fm) (u : Bool) (k : Int) : splice f.cells 0 [.bool u, .int .u16 k] = Fm.cells { f with un := u, no := k } := rfl
theorem built122_two (u : Bool) (k : Int) (b : List Int) (hb : b.length = 224) : Try.prog.built 122 [(0, idv u k), (1, .agg (bs b))] = some (Fm.mk u k b false false 0).arr := by
  rw [built_struct zeroOf122 places122]
  have z : (Value.agg Fm.zero.arr).cells = Fm.zero.arr := rfl
  have z0 : Fm.zero.arr.toList.length = 229 := by rw [Array.length_toList]; exact fz
  rw [z, fill_step _ _ 0 (idv u k) _ 0 2 rfl rfl (by rw [fz]; omega), fill_step _ _ 1 (.agg (bs b)) _ 2 224 rfl (by show (bs b).size = 224; rw [bs_size, hb]) (by rw [spl_size _ _ _ 229 z0 (by show 0 + 2 ≤ 229; omega)]; omega)]
  unfold Instr.fill
  congr 1
  unfold Fm.arr
  apply congrArg
  show splice (splice Fm.zero.cells 0 [.bool u, .int .u16 k]) 2 (b.map (Value.int .u8)) = _
  rw [cells_id, cells_pay (zs_length _) b hb]
  rfl
theorem built122_torn (u : Bool) (k : Int) (b : List Int) (hb : b.length = 224) : Try.prog.built 122 [(0, idv u k), (1, .agg (bs b)), (2, .bool true)] = some (Fm.mk u k b true false 0).arr := by
  rw [built_struct zeroOf122 places122]
  have z : (Value.agg Fm.zero.arr).cells = Fm.zero.arr := rfl
  have z0 : Fm.zero.arr.toList.length = 229 := by rw [Array.length_toList]; exact fz
  have z1 : (splice Fm.zero.arr.toList 0 (idv u k).cells.toList).length = 229 := by have := spl_size Fm.zero.arr.toList 0 (idv u k).cells.toList 229 z0 (by show 0 + 2 ≤ 229; omega); simpa using this
  rw [z, fill_step _ _ 0 (idv u k) _ 0 2 rfl rfl (by rw [fz]; omega), fill_step _ _ 1 (.agg (bs b)) _ 2 224 rfl (by show (bs b).size = 224; rw [bs_size, hb]) (by rw [spl_size _ _ _ 229 z0 (by show 0 + 2 ≤ 229; omega)]; omega),
    fill_step _ _ 2 (.bool true) _ 226 1 rfl rfl (by rw [spl_size _ _ _ 229 z1 (by show 2 + (bs b).toList.length ≤ 229; rw [Array.length_toList, bs_size, hb]; omega)]; omega)]
  unfold Instr.fill
  congr 1
  unfold Fm.arr
  apply congrArg
  show splice (splice (splice Fm.zero.cells 0 [.bool u, .int .u16 k]) 2 (b.map (Value.int .u8))) 226 [.bool true] = _
  rw [cells_id, cells_pay (zs_length _) b hb, cells_torn hb]
  rfl
theorem cwithin_any (i a b : Int) (w : World) : Calls Try.prog 61 #[.int .i64 i, .int .i64 a, .int .i64 b] w fun e w' => e = .returned (.bool (decide (a ≤ i ∧ i ≤ b))) ∧ w' = w := by
  by_cases h : i ≥ a
  · by_cases k : i ≤ b
    · have e : decide (a ≤ i ∧ i ≤ b) = true := decide_eq_true ⟨h, k⟩
      rw [e]
      go_enter Try.func61, Try.ntmps61
      go_wp2
      go_ret
      exact ⟨rfl, rfl⟩
    · have e : decide (a ≤ i ∧ i ≤ b) = false := decide_eq_false fun q => k q.2
      rw [e]
      go_enter Try.func61, Try.ntmps61
      go_wp2
      go_ret
      exact ⟨rfl, rfl⟩
  · have e : decide (a ≤ i ∧ i ≤ b) = false := decide_eq_false fun q => h q.1
    rw [e]
    go_enter Try.func61, Try.ntmps61
    go_wp2
    go_ret
    exact ⟨rfl, rfl⟩
def placeC (pages : Int) (u : Bool) (k : Int) : Int := if u = true then 2 + pages + k else 2 + k
theorem wfu {k : Int} (h : WfU k) : 0 ≤ k ∧ k ≤ 65535 := by
  unfold WfU at h
  have e : (Lit.int .u16 k).wf = (decide ((0 : Int) ≤ k) && decide (k ≤ 65535)) := rfl
  rw [e] at h; simpa using h
theorem cplace_any (pages : Int) (hp : 0 ≤ pages ∧ pages ≤ 1000) (u : Bool) (k : Int) (hk : WfU k) (w : World) : Calls Try.prog 29 #[.int .i64 pages, idv u k] w fun e w' => e = .returned (.int .i64 (placeC pages u k)) ∧ Below w.heap.size w w' := by
  have hb := wfu hk
  have r0 : Row (w.alloc (.cells #[.bool u, .int .u16 k] 31)) w.heap.size #[.bool u, .int .u16 k] 31 := Row.new _ _ _
  have ab : Below w.heap.size w (w.alloc (.cells #[.bool u, .int .u16 k] 31)) := (Below.refl _ _).alloc (Nat.le_refl _) _
  have e0 := row_at r0 0 _ rfl
  have e1 := row_at r0 1 _ rfl
  have w0 : IntKind.i64.wrap k = k := by rw [IntKind.wrap_i64]; omega
  have w1 : IntKind.i64.wrap (2 + pages) = 2 + pages := by rw [IntKind.wrap_i64]; omega
  have w2 : IntKind.i64.wrap (2 + pages + k) = 2 + pages + k := by rw [IntKind.wrap_i64]; omega
  have w3 : IntKind.i64.wrap (2 + k) = 2 + k := by rw [IntKind.wrap_i64]; omega
  unfold idv
  cases u with
  | true =>
    go_enter Try.func29, Try.ntmps29
    go_wp2
    go_ret
    exact ⟨rfl, ab⟩
  | false =>
    go_enter Try.func29, Try.ntmps29
    go_wp2
    go_ret
    exact ⟨rfl, ab⟩
theorem wp_update {P : Program} {o : Oper} {a : Act} {w : World} {K : Act → World → Prop} {Q : Exit → Act → World → Prop} (t : TypeId) (m x y : Operand) (ho : o.op = .mapUpdate t m x y) (mv kv vv : Value) (hm : a.eval m = mv) (hx : a.eval x = kv) (hy : a.eval y = vv)
    (w' : World) (hr : (Instr.mapUpdate t mv kv vv).run P w = .ok () w') (h : K (a.put o.dst undef) w') : Oper.wp P o a w K Q := by
  unfold Oper.wp
  simp [execOp, ho, hm, hx, hy, hr, Result.andThen]
  exact h
theorem bytes136 : ∃ i, Try.prog.info? 136 = some i ∧ i.zero = some (.agg (wcells 0 0 (zs 64))) ∧ i.size = 66 ∧ i.bytes = 80 := by
  have h := info136
  cases hq : Try.prog.info? 136 with
  | none => simp [hq] at h
  | some i => simp [hq] at h; exact ⟨i, rfl, h⟩
theorem wp_slice_one {o : Oper} {a : Act} {w : World} {K : Act → World → Prop} {Q : Exit → Act → World → Prop} (x : Operand) (ho : o.op = .buildSlice 85 1 #[(0, x)]) (b s : Int) (xs : List Int) (hl : xs.length = 64) (hx : a.eval x = .agg (wcells b s xs))
    (h : K (a.put o.dst (.slice (some ⟨w.heap.size, 0, none⟩) 1 1)) (w.alloc (.cells (wcells b s xs) 136))) : Oper.wp Try.prog o a w K Q := by
  obtain ⟨i, hi, hz, hs, _⟩ := bytes136
  refine wp_buildSlice 85 136 1 _ ho (wcells b s xs) i _ Try.underlying85 hi hz (by rw [hs]; decide) (by rw [hs]; decide) ?_ h
  have e1 : (#[(0, x)].map fun (i, x) => (i, a.eval x)).toList = [(0, .agg (wcells b s xs))] := by simp [hx]
  rw [e1, fill_step _ _ 0 (.agg (wcells b s xs)) _ 0 66 (by simp [hs]) (wcells_size b s xs hl) (by simp [hs])]
  unfold Instr.fill
  congr 1
  show (⟨splice _ 0 (wcells b s xs).toList⟩ : Array Value) = wcells b s xs
  have hc : (wcells b s xs).toList.length = 66 := by simpa using wcells_size b s xs hl
  unfold splice
  rw [List.drop_of_length_le (by rw [hc]; simp [hs])]
  simp
theorem pcells_snoc (l : List (Int × Int × List Int)) (q : Int × Int × List Int) : pcells (l ++ [q]) = pcells l ++ pcell q := by simp [pcells]
theorem pcell_one (q : Int × Int × List Int) : ∀ u ∈ pcell q, u.oneCell' = true := by
  intro u hu
  unfold pcell at hu
  simp at hu
  rcases hu with rfl | rfl | ⟨x, _, rfl⟩ <;> rfl
theorem wp_append_write {o : Oper} {a : Act} {w : World} {K : Act → World → Prop} {Q : Exit → Act → World → Prop} (s x : Operand) (ho : o.op = .call { callee := .builtin .append, args := #[s, x], argTypes := #[85, 85] })
    (g : Nat) (p : Value) (l : List (Int × Int × List Int)) (hs : a.eval s = p) (hown : w.ownsRow (g + 1) 136 66 p l.length (pcells l)) (Z : Nat) (q : Int × Int × List Int) (hx : a.eval x = .slice (some ⟨Z, 0, none⟩) 1 1)
    (hZ : Row w Z (pcell q).toArray 136) (hq : q.2.2.length = 64) (hl : l.length < 1000000000000) (hb : g + 1 ≤ w.heap.size)
    (h : ∀ r n cap w', w'.ownsRow (g + 1) 136 66 (.slice (some ⟨r, 0, none⟩) n cap) (l ++ [q]).length (pcells (l ++ [q])) → w.grownBy w' p.ownBlock → ((Value.slice (some ⟨r, 0, none⟩) n cap).ownBlock = p.ownBlock ∨ (Value.slice (some ⟨r, 0, none⟩) n cap).ownBlock = some w.heap.size) → K (a.put o.dst (.slice (some ⟨r, 0, none⟩) n cap)) w') : Oper.wp Try.prog o a w K Q := by
  obtain ⟨i, hi, hz, hsz, hby⟩ := bytes136
  obtain ⟨p', w', hr, h2, h3, h4, h5⟩ := run_append_own_at (P := Try.prog) w (g + 1) 85 o.type 136 i _ 66 80 Try.underlying85 hi hz hsz hby (wcells_size _ _ _ (zs_length 64)) (by decide) p l.length (pcells l) hown ⟨Z, 0, none⟩ 1 1 (pcell q)
    (by simp [pcell, hq]) (fun j u hj => by rw [Addr.add_mid, Nat.zero_add, cell_of_row w Z _ _ _ _ hZ]; simpa using hj) (pcell_one q) (by unfold maxLen; omega) (by omega) hb
  unfold Oper.wp execOp
  simp only [ho, resolve, invoke, builtin, Sem.run_bind, Sem.run_pure, Result.andThen_ok, List.map_toArray, List.map_cons, List.map_nil, hs, hx, hr]
  have h2' : w'.ownsRow (g + 1) 136 66 p' (l ++ [q]).length (pcells (l ++ [q])) := by rw [pcells_snoc, List.length_append]; exact h2
  rcases h2.2 with ⟨_, e0⟩ | ⟨r, cap, cur, rfl, _⟩
  · omega
  · exact h r _ cap w' h2' h3 h5
theorem row_drew {w : World} {g : Nat} {cs : Array Value} {t : TypeId} (h : Row w g cs t) : Row w.drew g cs t := h
theorem pcell_length (b s : Int) (xs : List Int) (h : xs.length = 64) : (pcell (b, s, xs)).length = 66 := by simp [pcell, h]
theorem range_all {w : World} {g : Nat} {b s : Int} {xs : List Int} {t : TypeId} (h : Row w g (wcells b s xs) t) : w.rangeAt g 0 (pcell (b, s, xs)) := by
  intro j v hv
  rw [cell_of_row w g _ _ _ _ h, Nat.zero_add]
  simpa [wcells] using hv
def Dsk.push (d : Dsk) (q : Int × Int × List Int) : Dsk := { d with pend := d.pend ++ [q] }
theorem DAt.push {w w' : World} {g : Nat} {d : Dsk} {L : Loc} {N : Nat} (h : DAt w g d L N) (q : Int × Int × List Int) (hq : 0 ≤ q.1 ∧ q.1 < d.n ∧ 0 ≤ q.2.1 ∧ q.2.1 < 4 ∧ Sec q.2.2) (p' : Value) (hN : N + 1 < 1000000000000)
    (row : Row w' g (dcells d { L with p := p' }) 88) (fresh : SMap w' L.b (d.pend.length + 1) ((over (fun _ _ => none) d.pend).put q.1 q.2.1 q.2.2))
    (pend : w'.ownsRow (g + 1) 136 66 p' (d.pend ++ [q]).length (pcells (d.pend ++ [q]))) (ha : w'.heap[L.a]? = w.heap[L.a]?) (hf : ∀ m, L.f = .map (some m) → w'.heap[m]? = w.heap[m]?) : DAt w' g (d.push q) { L with p := p' } (N + 1) where
  row := row
  sure := by
    obtain ⟨s, hs, hle⟩ := h.sure
    exact ⟨s, hs.kept ha, by simp [Dsk.push]; omega⟩
  fresh := by
    have e : over (fun _ _ => none) (d.pend ++ [q]) = (over (fun _ _ => none) d.pend).put q.1 q.2.1 q.2.2 := by rw [over_append]; rfl
    show SMap w' L.b (d.pend ++ [q]).length (over (fun _ _ => none) (d.pend ++ [q]))
    rw [e, List.length_append]; exact fresh
  ab := h.ab
  pend := pend
  fails := h.fails.kept fun m e _ => hf m e
  fa := h.fa
  fb := h.fb
  big := hN
  okp := by
    intro r hr
    rcases List.mem_append.1 hr with hr | hr
    · exact h.okp r hr
    · simp at hr; subst hr; exact hq
  small := h.small
  opsn := h.opsn
  fusew := h.fusew
theorem DAt.pf {w : World} {g : Nat} {d : Dsk} {L : Loc} {N : Nat} (h : DAt w g d L N) {m : Nat} (e : L.f = .map (some m)) : L.p.ownBlock ≠ some m ∧ m < w.heap.size := by
  rcases h.fails with ⟨q, _⟩ | ⟨m', n, D, q, hD, _⟩
  · rw [q] at e; cases e
  · rw [q] at e; cases e
    have hl := hD.lt
    obtain ⟨es, clock, hb, _⟩ := hD
    exact ⟨h.pm hb, hl⟩
theorem write_after {w w3 w4 w6 : World} {g : Nat} {d : Dsk} {L : Loc} {N : Nat} {F0 : Nat → Prop} (D3 : DAt w3 g d L N) (q : Int × Int × List Int) (hq : 0 ≤ q.1 ∧ q.1 < d.n ∧ 0 ≤ q.2.1 ∧ q.2.1 < 4 ∧ Sec q.2.2) (hN : N + 1 < 1000000000000)
    (g4 : w3.grownBy w4 (some L.b)) (m4 : SMap w4 L.b (d.pend.length + 1) ((over (fun _ _ => none) d.pend).put q.1 q.2.1 q.2.2)) (p' : Value)
    (hp6 : w6.ownsRow (g + 1) 136 66 p' (d.pend ++ [q]).length (pcells (d.pend ++ [q]))) (hg6 : (w4.drew.alloc (.cells (pcell q).toArray 136)).grownBy w6 L.p.ownBlock) (hl6 : p'.ownBlock = L.p.ownBlock ∨ p'.ownBlock = some (w4.drew.alloc (.cells (pcell q).toArray 136)).heap.size)
    (X Y : Nat) (x : List Int) (cY : Array Value) (rX : Row w3 X (bs x) 41) (rY : Row w3 Y cY 136) (hY : ¬ foot g L Y) (hX : ¬ foot g L X) (O3 : Off F0 w w3) (HF : ∀ j, foot g L j → F0 j ∨ w.heap.size ≤ j) :
    w6.cell? ⟨g, 3, none⟩ = some L.p ∧ w6.frozen? ⟨g, 3, none⟩ = false ∧ Row w6 Y cY 136 ∧ DAt (w6.setCell ⟨g, 3, none⟩ p') g (d.push q) { L with p := p' } (N + 1) ∧ Row (w6.setCell ⟨g, 3, none⟩ p') X (bs x) 41 ∧
      Off F0 w (w6.setCell ⟨g, 3, none⟩ p') ∧ (∀ j, foot g { L with p := p' } j → F0 j ∨ w.heap.size ≤ j) := by
  have h36 : ∀ j, j < w3.heap.size → j ≠ L.b → L.p.ownBlock ≠ some j → w6.heap[j]? = w3.heap[j]? := fun j hj hb hp => by
    have hj4 : j < w4.heap.size := Nat.lt_of_lt_of_le hj g4.size
    rw [hg6.block j (by simp; omega) (fun e => hp e.symm), Below.heap_alloc _ _ _ (show j < w4.drew.heap.size from hj4)]
    exact g4.block j hj (fun e => hb (by cases e; rfl))
  have h37 : ∀ j, j < w3.heap.size → j ≠ L.b → L.p.ownBlock ≠ some j → j ≠ g → (w6.setCell ⟨g, 3, none⟩ p').heap[j]? = w3.heap[j]? := fun j hj hb hp hg => by
    rw [Below.heap_setCell _ _ _ _ hg]; exact h36 j hj hb hp
  have hbl : L.b < w3.heap.size := D3.fresh.lt
  have hal : L.a < w3.heap.size := D3.lt (Or.inr (Or.inl rfl))
  have row6 : Row w6 g (dcells d L) 88 := by
    have := D3.row
    unfold Row at this ⊢
    rw [h36 g D3.row.lt D3.bg.symm D3.pg]; exact this
  have r6Y : Row w6 Y cY 136 := by
    have := rY
    unfold Row at this ⊢
    rw [h36 Y rY.lt (fun e => hY (Or.inr (Or.inr (Or.inl e)))) (fun e => hY (Or.inr (Or.inr (Or.inr (Or.inl e)))))]; exact this
  have r7X : Row (w6.setCell ⟨g, 3, none⟩ p') X (bs x) 41 := by
    have := rX
    unfold Row at this ⊢
    rw [h37 X rX.lt (fun e => hX (Or.inr (Or.inr (Or.inl e)))) (fun e => hX (Or.inr (Or.inr (Or.inr (Or.inl e))))) (fun e => hX (Or.inl e))]; exact this
  have hs6 : w3.heap.size ≤ w6.heap.size := by
    have := hg6.size
    simp at this
    have := g4.size
    omega
  refine ⟨row_at row6 3 L.p rfl, row_frozen row6 3, r6Y, D3.push q hq p' hN (row_set row6 3 p') ?_ ?_ ?_ ?_, r7X, ?_, ?_⟩
  · refine m4.kept ?_
    rw [Below.heap_setCell _ _ _ _ D3.bg, hg6.block L.b (by simp; have := m4.lt; omega) (fun e => D3.pb e.symm), Below.heap_alloc _ _ _ (show L.b < w4.drew.heap.size from m4.lt)]; rfl
  · exact ownsRow_kept hp6 fun j e _ => Below.heap_setCell _ _ _ _ (fun e2 => by have := (hp6.lt j e).1; simp at e2; omega)
  · exact h37 L.a hal D3.ab D3.pa D3.ag
  · intro m e
    obtain ⟨h1, h2⟩ := D3.pf e
    exact h37 m h2 (fun e2 => D3.fb (e2 ▸ e)) h1 (fun e2 => D3.fg (e2 ▸ e))
  · refine ⟨?_, ?_, ?_, Nat.le_trans O3.size (by simpa [World.setCell] using hs6), fun j hj hn => ?_⟩
    · exact (hg6.os.trans g4.os).trans O3.os
    · exact (hg6.tape.trans g4.tape).trans O3.tape
    · exact (hg6.output.trans g4.output).trans O3.output
    · have nf : ¬ foot g L j := fun q => by
        rcases HF j q with q | q
        · exact hn q
        · omega
      rw [h37 j (Nat.lt_of_lt_of_le hj O3.size) (fun e => nf (Or.inr (Or.inr (Or.inl e)))) (fun e => nf (Or.inr (Or.inr (Or.inr (Or.inl e))))) (fun e => nf (Or.inl e))]
      exact O3.block j hj hn
  · rintro j (rfl | rfl | rfl | e | e)
    · exact HF _ (Or.inl rfl)
    · exact HF _ (Or.inr (Or.inl rfl))
    · exact HF _ (Or.inr (Or.inr (Or.inl rfl)))
    · rcases hl6 with q | q
      · exact HF _ (Or.inr (Or.inr (Or.inr (Or.inl (q ▸ e)))))
      · right
        have e' : p'.ownBlock = some j := e
        rw [q] at e'
        cases e'
        simp
        have := g4.size
        have := O3.size
        omega
    · exact HF _ (Or.inr (Or.inr (Or.inr (Or.inr e))))
def Dsk.wrote (d : Dsk) (b : Int) (x : List Int) : Nat → Dsk
  | 0 => d
  | k + 1 => (d.wrote b x k).push (b, (k : Int), cut x k)
theorem wrote_n (d : Dsk) (b : Int) (x : List Int) : ∀ k, (d.wrote b x k).n = d.n
  | 0 => rfl
  | k + 1 => wrote_n d b x k
theorem cut_at (x : List Int) (hx : x.length = 256) (i : Nat) (hi : i < 4) (s : List Int) (hs : cut x i = s) (w : World) :
    Calls Try.prog 38 #[.agg (bs x), .int .i64 i] w fun e w' => e = .returned (.agg (bs s)) ∧ Below w.heap.size w w' := by
  subst hs; exact cut_in x hx i hi w
theorem cut_bytes (x : List Int) (hb : Bytes x) (i : Nat) : Bytes (cut x i) := fun y hy => hb y (List.mem_of_mem_drop (List.mem_of_mem_take hy))
theorem Row.type_ne {w : World} {g k : Nat} {c c' : Array Value} {t t' : TypeId} (h : Row w g c t) (h' : Row w k c' t') (ht : t ≠ t') : g ≠ k := by
  rintro rfl
  unfold Row at h h'
  rw [h] at h'
  cases h'; exact ht rfl
theorem DAt.notX {w : World} {g : Nat} {d : Dsk} {L : Loc} {N : Nat} (h : DAt w g d L N) {X : Nat} {x : List Int} (r : Row w X (bs x) 41) : ¬ foot g L X := by
  rintro (e | e | e | e | e)
  · exact r.type_ne h.row (by decide) e
  · obtain ⟨s, hs, _⟩ := h.sure
    exact r.map_ne hs e.symm
  · exact r.map_ne h.fresh e.symm
  · rcases h.pend.2 with ⟨q, _⟩ | ⟨rr, cap, cur, q, _, hr, _⟩
    · rw [q] at e; cases e
    · rw [q] at e
      simp [Value.ownBlock] at e
      subst e
      unfold Row at r
      rw [r] at hr; cases hr
  · rcases h.fails with ⟨q, _⟩ | ⟨m, n, D, q, ⟨es, clock, hb, _⟩, _⟩
    · rw [q] at e; cases e
    · rw [q] at e; cases e
      unfold Row at r
      rw [r] at hb; cases hb
set_option maxHeartbeats 2000000 in
theorem write_in {w : World} {g : Nat} {d0 : Dsk} {L0 : Loc} {N : Nat} (h0 : DAt w g d0 L0 N) (ho : d0.ops < 9223372036854775806) (b : Int) (x : List Int) (hx : x.length = 256) (xb : Bytes x) (hN : N + 4 < 1000000000000) (ha : (ask d0 b).1 = 0) :
    Calls Try.prog 30 #[.pointer (some ⟨g, 0, none⟩), .int .i64 b, .agg (bs x)] w fun e w' => e = .returned (.int .i64 0) ∧ ∃ L', DAt w' g ((ask d0 b).2.wrote b x 4) L' (N + 4) ∧ Off (foot g L0) w w' ∧ ∀ j, foot g L' j → foot g L0 j ∨ w.heap.size ≤ j := by
  obtain ⟨b0, b1, b2⟩ := ask_in ha
  have hn := h0.small
  have wb : Wf b := wf_of (by omega) (by omega)
  have hask := ask_any (h0.alloc (.cells (bs x) 41)) ho b
  rw [ha] at hask
  have hn1 : (ask d0 b).2.n = d0.n := by rw [b2, count_n]
  generalize (ask d0 b).2 = d1 at hask hn1 ⊢
  clear ha b2
  have aX : Row (w.alloc (.cells (bs x) 41)) w.heap.size (bs x) 41 := Row.new _ _ _
  have gw : g < w.heap.size := h0.row.lt
  have HW : Hid (∀ k : Nat, k < 4 → Wf (k : Int)) := fun k hk => wf_of (by omega) (by omega)
  obtain ⟨X, HX⟩ : ∃ X, Hid (w.heap.size = X) := ⟨_, rfl⟩
  have oa : Off (foot g L0) w (w.alloc (.cells (bs x) 41)) := Off.of_below ((Below.refl _ _).alloc (Nat.le_refl _) _)
  have HPOST : Hid (∀ w', (∃ L', DAt w' g (d1.wrote b x 4) L' (N + 4) ∧ Off (foot g L0) w w' ∧ ∀ j, foot g L' j → foot g L0 j ∨ w.heap.size ≤ j) → ∃ L', DAt w' g (d1.wrote b x 4) L' (N + 4) ∧ Off (foot g L0) w w' ∧ ∀ j, foot g L' j → foot g L0 j ∨ w.heap.size ≤ j) := fun _ h => h
  generalize hPP : (fun w' => ∃ L', DAt w' g (d1.wrote b x 4) L' (N + 4) ∧ Off (foot g L0) w w' ∧ ∀ j, foot g L' j → foot g L0 j ∨ w.heap.size ≤ j) = PP
  have HPP : Hid (∀ w', (∃ L', DAt w' g (d1.wrote b x 4) L' (N + 4) ∧ Off (foot g L0) w w' ∧ ∀ j, foot g L' j → foot g L0 j ∨ w.heap.size ≤ j) → PP w') := fun w' h => by rw [← hPP]; exact h
  show Calls Try.prog 30 _ w fun e w' => e = .returned (.int .i64 0) ∧ (fun w' => ∃ L', DAt w' g (d1.wrote b x 4) L' (N + 4) ∧ Off (foot g L0) w w' ∧ ∀ j, foot g L' j → foot g L0 j ∨ w.heap.size ≤ j) w'
  rw [hPP]
  clear hPP HPOST
  go_enter Try.func30, Try.ntmps30
  go_wp2_with (go_at_call 64; refine hask.mono ?_; rintro e w1 ⟨rfl, D1, o1⟩)
  have rX1 : Row w1 X (bs x) 41 := by rw [← HX.out]; exact aX.off o1 (by omega)
  have O1 : Off (foot g L0) w w1 := oa.trans o1 (fun j hj => Or.inl (Or.inl hj))
  go_loopw [16] (fun c wr => ∃ (k : Nat) (d : Dsk) (L : Loc), c = .int .i64 k ∧ k ≤ 4 ∧ Hid (d = d1.wrote b x k) ∧ Row wr X (bs x) 41 ∧ DAt wr g d L (N + k) ∧ Off (foot g L0) w wr ∧ Hid (∀ j, foot g L j → foot g L0 j ∨ w.heap.size ≤ j)) (fun c _ => 4 - (intOf c).toNat)
  case atStart => exact ⟨0, d1, L0, rfl, by omega, rfl, rX1, D1, O1, fun j hj => Or.inl hj⟩
  case round =>
    clear rX1 O1 D1 o1 oa aX
    obtain ⟨k, d, L, rfl, hk4, HD, rX, D, O, HF⟩ := hrel
    by_cases hk : k < 4
    · have wk := HW.out k hk
      obtain ⟨s, HS⟩ : ∃ s, Hid (cut x k = s) := ⟨_, rfl⟩
      have hsl : s.length = 64 := by rw [← HS.out]; exact cut_length x k hx hk
      have hsec : Sec s := ⟨hsl, by rw [← HS.out]; exact cut_bytes x xb k⟩
      have HD' : Hid (d.push (b, (k : Int), s) = d1.wrote b x (k + 1)) := by show _ = _; rw [HD.out, ← HS.out]; rfl
      have hdn : d.n = d0.n := by rw [HD.out, wrote_n, hn1]
      have hq5 : 0 ≤ b ∧ b < (d.n : Int) ∧ 0 ≤ (k : Int) ∧ (k : Int) < 4 ∧ Sec s := ⟨b0, by rw [hdn]; exact b1, by omega, by omega, hsec⟩
      have HQ5 : Hid _ := hq5
      clear hq5 hsec
      have hz81 := zero136
      have hb81 := built136 b (k : Int) s hsl
      go_wp2_with (first
        | (refine load_row rfl 41 (.tmp 5) rfl X (by rw [← HX.out]; rfl) 41 (bs x) rX 256 5 Try.underlying41 size41 (by rw [bs_size, hx]) ?_)
        | (go_at_call 38; refine (cut_at x hx k hk s HS.out _).mono ?_; rintro e wc ⟨rfl, hcb⟩
           have y0 : Row (wc.alloc (.cells (wcells 0 0 (zs 64)) 136)) wc.heap.size (wcells 0 0 (zs 64)) 136 := Row.new _ _ _)
        | (refine build_two rfl 136 (.tmp 21) (.tmp 24) rfl _ _ rfl rfl (wcells b k s) hb81 ?_)
        | (refine store_cells rfl 136 (.tmp 9) (.tmp 25) rfl wc.heap.size (wcells b k s) rfl rfl 136 _ y0 66 size136 (wcells_size _ _ _ (zs_length 64)) (wcells_size _ _ _ hsl) (wcells_one _ _ _) ?_))
      have hYf : ¬ foot g L wc.heap.size := fun q => by have := D.lt q; have := hcb.size; omega
      have rY3 : Row ((wc.alloc (.cells (wcells 0 0 (zs 64)) 136)).setRow wc.heap.size (wcells b k s)) wc.heap.size (wcells b k s) 136 := y0.set _
      have D3 : DAt ((wc.alloc (.cells (wcells 0 0 (zs 64)) 136)).setRow wc.heap.size (wcells b k s)) g d L (N + k) := ((D.below hcb).alloc _).setRow _ _ hYf
      have rX3 : Row ((wc.alloc (.cells (wcells 0 0 (zs 64)) 136)).setRow wc.heap.size (wcells b k s)) X (bs x) 41 := ((rX.below hcb rX.lt).alloc _).other (by have := rX.lt; have := hcb.size; omega) _
      have O3 : Off (foot g L0) w ((wc.alloc (.cells (wcells 0 0 (zs 64)) 136)).setRow wc.heap.size (wcells b k s)) :=
        ((O.trans (Off.of_below (F := fun _ => False) hcb) (fun _ h => h.elim)).trans (Off.of_below (F := fun _ => False) ((Below.refl _ _).alloc (Nat.le_refl _) _)) (fun _ h => h.elim)).trans (Off.of_setRow (F := (· = wc.heap.size)) _ _ _ rfl) (fun j hj => Or.inr (by have := O.size; have := hcb.size; omega))
      clear y0
      generalize (wc.alloc (.cells (wcells 0 0 (zs 64)) 136)).setRow wc.heap.size (wcells b k s) = w3 at rY3 D3 rX3 O3 ⊢
      generalize wc.heap.size = Y at hYf rY3 ⊢
      clear hcb rX D O hb81 hz81
      have hXf : ¬ foot g L X := D3.notX rX3
      have hYg : g ≠ Y := fun q => hYf (Or.inl q.symm)
      have hYg' : Y ≠ g := hYg.symm
      have hpl : d.pend.length < 1000000000000 := by obtain ⟨_, _, h2⟩ := D3.sure; omega
      have hNk : N + k + 1 < 1000000000000 := by omega
      obtain ⟨w4, hrun4, m4, g4, z4⟩ := D3.drew.fresh.store (by unfold maxLen; omega) wb wk HQ5.out.2.2.2.2
      have g4' : w3.grownBy w4 (some L.b) := ⟨g4.os, g4.tape, g4.output, g4.size, g4.block⟩
      clear z4 g4
      have row4 : Row w4 g (dcells d L) 88 := by
        have := D3.row
        unfold Row at this ⊢
        rw [g4'.block g D3.row.lt (fun q => D3.bg (by cases q; rfl))]; exact this
      have y4 : Row w4 Y (wcells b k s) 136 := by
        have := rY3
        unfold Row at this ⊢
        rw [g4'.block Y rY3.lt (fun q => hYf (Or.inr (Or.inr (Or.inl (by cases q; rfl)))))]; exact this
      have c34 := row_at (row_drew row4) 3 L.p rfl
      have c35 := row_at (row4.alloc (.cells (wcells b k s) 136)) 3 L.p rfl
      have p4 : w4.drew.ownsRow (g + 1) 136 66 L.p d.pend.length (pcells d.pend) := ownsRow_kept D3.pend fun j e hl => g4'.block j hl (fun q => D3.pb (by cases q; exact e))
      have p5 := p4.alloc (.cells (wcells b k s) 136)
      have z5 : Row (w4.drew.alloc (.cells (wcells b k s) 136)) w4.drew.heap.size (pcell (b, (k : Int), s)).toArray 136 := Row.new _ _ _
      have hg5 : g + 1 ≤ (w4.drew.alloc (.cells (wcells b k s) 136)).heap.size := by have := row4.lt; simp; omega
      have hq5 := HQ5.out
      unfold pk at hrun4
      refine wp_region_held_drew (S := fun w' => Row w' g (dcells d L) 88 ∧ Row w' Y (wcells b k s) 136) (by kernel_rfl) ⟨row_drew D3.row, row_drew rY3⟩ fun hS => ?_
      refine tkI (i := 0) (v := .pointer (some ⟨g, 0, none⟩)) rfl (Or.inl ⟨by rfl, fun w _ => by rfl⟩) hS ?_
      try simp only [Act.put, nz]
      refine tkI (i := 1) (v := .pointer (some ⟨g, 0, none⟩)) rfl (Or.inl ⟨by rfl, fun w _ => by go_simp⟩) hS ?_
      try simp only [Act.put, nz]
      refine tkI (i := 2) (v := .pointer (some ⟨g, 2, none⟩)) rfl (Or.inl ⟨by rfl, fun w _ => by go_simp⟩) hS ?_
      try simp only [Act.put, nz]
      refine tkI (i := 3) (v := .map (some L.b)) rfl (Or.inl ⟨by rfl, fun w h => by have c := (row_at h.1 2 (.map (some L.b)) rfl); go_simp⟩) hS ?_
      try simp only [Act.put, nz]
      refine tkI (i := 4) (v := .pointer (some ⟨Y, 0, none⟩)) rfl (Or.inl ⟨by rfl, fun w _ => by go_simp⟩) hS ?_
      try simp only [Act.put, nz]
      refine tkI (i := 5) (v := .agg #[.int .i64 b, .int .i64 k]) rfl (yieldsIf_load_mid (by rfl) 90 (.tmp 30) rfl Y 0 rfl [.int .i64 b, .int .i64 k] _ (fun w h => range_key h.2) Try.underlying90 rfl size90) hS ?_
      try simp only [Act.put, nz]
      refine tkI (i := 6) (v := .pointer (some ⟨Y, 2, none⟩)) rfl (Or.inl ⟨by rfl, fun w _ => by go_simp⟩) hS ?_
      try simp only [Act.put, nz]
      refine tkI (i := 7) (v := .agg (bs s)) rfl (yieldsIf_load_mid (by rfl) 79 (.tmp 32) rfl Y 2 rfl (s.map (Value.int .u8)) _ (fun w h => range_sec h.2) Try.underlying79 rfl (by rw [List.length_map, hsl]; exact size79)) hS ?_
      try simp only [Act.put, nz]
      refine wpAnyH_ready (rs := [8]) (by kernel_rfl) (by simp) ?_
      refine AllReadyH.cons rfl (fun K hK => step_of rfl (wp_update 84 (.tmp 29) (.tmp 31) (.tmp 33) rfl _ _ _ rfl rfl rfl w4 hrun4 (hK.out _ _ ⟨row4, y4⟩ fun hS => ?_))) AllReadyH.nil
      try simp only [Act.put, nz]
      refine wpAnyH_done (by kernel_rfl) ?_ _
      go_wp2
      refine wp_region_held_drew (S := fun w' => Row w' Y (wcells b k s) 136) (by kernel_rfl) (row_drew y4) fun hS => ?_
      refine tkI (i := 0) (v := .pointer (some ⟨g, 0, none⟩)) rfl (Or.inl ⟨by rfl, fun w _ => by rfl⟩) hS ?_
      try simp only [Act.put, nz]
      refine tkI (i := 1) (v := .pointer (some ⟨g, 0, none⟩)) rfl (Or.inl ⟨by rfl, fun w _ => by rfl⟩) hS ?_
      try simp only [Act.put, nz]
      refine tkI (i := 2) (v := .pointer (some ⟨g, 0, none⟩)) rfl (Or.inl ⟨by rfl, fun w _ => by go_simp⟩) hS ?_
      try simp only [Act.put, nz]
      refine tkI (i := 3) (v := .pointer (some ⟨g, 3, none⟩)) rfl (Or.inl ⟨by rfl, fun w _ => by go_simp⟩) hS ?_
      try simp only [Act.put, nz]
      refine tkI (i := 5) (v := .agg (wcells b k s)) rfl (yieldsIf_load_mid (by rfl) 136 (.tmp 9) rfl Y 0 rfl (pcell (b, (k : Int), s)) _ (fun w h => range_all h) Try.underlying136 rfl (by rw [pcell_length _ _ _ hsl]; exact size136)) hS ?_
      try simp only [Act.put, nz]
      refine wpAnyH_ready (rs := [4, 6]) (by kernel_rfl) (by simp) ?_
      refine AllReadyH.cons rfl (fun K hK => ?_) (AllReadyH.cons rfl (fun K hK => ?_) AllReadyH.nil)
      · go_simp
        refine hK.out _ _ hS fun hS => ?_
        try simp only [Act.put, nz]
        refine wpAnyH_ready (rs := [6]) (by kernel_rfl) (by simp) ?_
        refine AllReadyH.cons rfl (fun K hK => step_of rfl (wp_slice_one (.tmp 39) rfl b k s hsl rfl (hK.out _ _ (hS.alloc _) fun hS => ?_))) AllReadyH.nil
        try simp only [Act.put, nz]
        refine wpAnyH_ready (rs := [7]) (by kernel_rfl) (by simp) ?_
        refine AllReadyH.cons rfl (fun K hK => step_of rfl (wp_append_write (.tmp 38) (.tmp 40) rfl g L.p d.pend rfl p5 _ (b, (k : Int), s) rfl z5 hsl hpl hg5 ?_)) AllReadyH.nil
        intro r n6 cap6 w6 hp6 hg6 hl6
        obtain ⟨c6, f6, y6, D7, X7, O7, F7⟩ := write_after D3 (b, (k : Int), s) hq5 hNk g4' m4 _ hp6 hg6 hl6 X Y x _ rX3 rY3 hYf hXf O3 HF.out
        refine hK.out _ _ y6 fun hS => ?_
        try simp only [Act.put, nz]
        refine tkI (i := 8) (v := .pointer (some ⟨g, 0, none⟩)) rfl (Or.inl ⟨by rfl, fun w _ => by go_simp⟩) hS ?_
        try simp only [Act.put, nz]
        refine tkI (i := 9) (v := .pointer (some ⟨g, 3, none⟩)) rfl (Or.inl ⟨by rfl, fun w _ => by go_simp⟩) hS ?_
        try simp only [Act.put, nz]
        refine wpAnyH_ready (rs := [10]) (by kernel_rfl) (by simp) ?_
        refine AllReadyH.cons rfl (fun K hK => ?_) AllReadyH.nil
        go_simp
        refine hK.out _ _ (row_setCell_other y6 hYg' _ _) fun hS => ?_
        try simp only [Act.put, nz]
        refine wpAnyH_done (by kernel_rfl) ?_ _
        clear c6 f6
        go_wp2
        go_roundw
        case rel => exact ⟨k + 1, d.push (b, (k : Int), s), _, by go_num, by omega, HD', X7, D7, O7, F7⟩
        case measure => simp [intOf]; omega
      · refine step_of rfl (wp_slice_one (.tmp 39) rfl b k s hsl rfl (hK.out _ _ (hS.alloc _) fun hS => ?_))
        try simp only [Act.put, nz]
        refine wpAnyH_ready (rs := [4]) (by kernel_rfl) (by simp) ?_
        refine AllReadyH.cons rfl (fun K hK => ?_) AllReadyH.nil
        go_simp
        refine hK.out _ _ hS fun hS => ?_
        try simp only [Act.put, nz]
        refine wpAnyH_ready (rs := [7]) (by kernel_rfl) (by simp) ?_
        refine AllReadyH.cons rfl (fun K hK => step_of rfl (wp_append_write (.tmp 38) (.tmp 40) rfl g L.p d.pend rfl p5 _ (b, (k : Int), s) rfl z5 hsl hpl hg5 ?_)) AllReadyH.nil
        intro r n6 cap6 w6 hp6 hg6 hl6
        obtain ⟨c6, f6, y6, D7, X7, O7, F7⟩ := write_after D3 (b, (k : Int), s) hq5 hNk g4' m4 _ hp6 hg6 hl6 X Y x _ rX3 rY3 hYf hXf O3 HF.out
        refine hK.out _ _ y6 fun hS => ?_
        try simp only [Act.put, nz]
        refine tkI (i := 8) (v := .pointer (some ⟨g, 0, none⟩)) rfl (Or.inl ⟨by rfl, fun w _ => by go_simp⟩) hS ?_
        try simp only [Act.put, nz]
        refine tkI (i := 9) (v := .pointer (some ⟨g, 3, none⟩)) rfl (Or.inl ⟨by rfl, fun w _ => by go_simp⟩) hS ?_
        try simp only [Act.put, nz]
        refine wpAnyH_ready (rs := [10]) (by kernel_rfl) (by simp) ?_
        refine AllReadyH.cons rfl (fun K hK => ?_) AllReadyH.nil
        go_simp
        refine hK.out _ _ (row_setCell_other y6 hYg' _ _) fun hS => ?_
        try simp only [Act.put, nz]
        refine wpAnyH_done (by kernel_rfl) ?_ _
        clear c6 f6
        go_wp2
        go_roundw
        case rel => exact ⟨k + 1, d.push (b, (k : Int), s), _, by go_num, by omega, HD', X7, D7, O7, F7⟩
        case measure => simp [intOf]; omega
    · have e4 : k = 4 := by omega
      subst e4
      have hp := HPP.out wr ⟨L, by rw [← HD.out]; exact D, O, HF.out⟩
      go_wp2
      go_ret
      exact ⟨rfl, hp⟩
theorem write_err (v : Value) (b E : Int) (hE : ¬ E = 0) (x : List Int) (w : World) (F : Nat → Prop) (T : World → Prop)
    (hh : ∀ wa, Below w.heap.size w wa → Calls Try.prog 64 #[v, .int .i64 b] wa fun e w' => e = .returned (.int .i64 E) ∧ Off F wa w' ∧ T w') :
    Calls Try.prog 30 #[v, .int .i64 b, .agg (bs x)] w fun e w' => e = .returned (.int .i64 E) ∧ Off F w w' ∧ T w' := by
  have ab : Below w.heap.size w (w.alloc (.cells (bs x) 41)) := (Below.refl _ _).alloc (Nat.le_refl _) _
  go_enter Try.func30, Try.ntmps30
  go_wp2_with (go_at_call 64; refine (hh _ ab).mono ?_; rintro e w' ⟨rfl, ho, ht⟩)
  go_ret
  exact ⟨rfl, (Off.of_below (F := F) ab).trans ho (fun j hj => Or.inl hj), ht⟩
def writ (d : Dsk) (b : Int) (x : List Int) : Int × Dsk := if (ask d b).1 = 0 then (0, (ask d b).2.wrote b x 4) else ask d b
theorem write_any {w : World} {g : Nat} {d : Dsk} {L : Loc} {N : Nat} (h : DAt w g d L N) (ho : d.ops < 9223372036854775806) (b : Int) (x : List Int) (hx : x.length = 256) (xb : Bytes x) (hN : N + 4 < 1000000000000) :
    Calls Try.prog 30 #[.pointer (some ⟨g, 0, none⟩), .int .i64 b, .agg (bs x)] w fun e w' => e = .returned (.int .i64 (writ d b x).1) ∧ ∃ L', DAt w' g (writ d b x).2 L' (N + 4) ∧ Off (foot g L) w w' ∧ ∀ j, foot g L' j → foot g L j ∨ w.heap.size ≤ j := by
  by_cases e0 : (ask d b).1 = 0
  · have e : writ d b x = (0, (ask d b).2.wrote b x 4) := by unfold writ; rw [if_pos e0]
    rw [e]
    exact write_in h ho b x hx xb hN e0
  · have e : writ d b x = ask d b := by unfold writ; rw [if_neg e0]
    rw [e]
    refine (write_err _ b (ask d b).1 e0 x w (foot g L) (fun w' => DAt w' g (ask d b).2 L N) fun wa hb => ?_).mono ?_
    · refine (ask_any (h.below hb) ho b).mono ?_
      rintro e w' ⟨rfl, h1, h2⟩
      exact ⟨rfl, h2.mono (fun j hj => Or.inl (Or.inl hj)), h1⟩
    · rintro e w' ⟨rfl, h1, h2⟩
      refine ⟨rfl, L, { h2 with sure := ?_, big := hN }, h1, fun j hj => Or.inl hj⟩
      obtain ⟨s, hs, hle⟩ := h2.sure
      exact ⟨s, hs, by omega⟩
theorem wrote_seen (d : Dsk) (b : Int) (x : List Int) (hx : x.length = 256) : (d.wrote b x 4).seen b = x := by
  unfold Dsk.seen Secs.block
  have e : (d.wrote b x 4).sure = d.sure ∧ (d.wrote b x 4).pend = d.pend ++ [(b, 0, cut x 0), (b, 1, cut x 1), (b, 2, cut x 2), (b, 3, cut x 3)] := by
    constructor
    · rfl
    · simp [Dsk.wrote, Dsk.push]
  rw [e.1, e.2, over_append]
  generalize over d.sure d.pend = f
  have h2 : ∀ i : Nat, i < 4 → (over f [(b, 0, cut x 0), (b, 1, cut x 1), (b, 2, cut x 2), (b, 3, cut x 3)]).get b (i : Int) = cut x i := by
    intro i hi
    have : i = 0 ∨ i = 1 ∨ i = 2 ∨ i = 3 := by omega
    rcases this with rfl | rfl | rfl | rfl <;> simp [over, Secs.put, Secs.get]
  rw [blk_congr _ (cut x) (fun i hi => by rw [h2 i hi]; exact cut_length x i hx hi) h2]
  exact blk_cut x hx
theorem wrote_ops (d : Dsk) (b : Int) (x : List Int) : (d.wrote b x 4).ops = d.ops ∧ (d.wrote b x 4).down = d.down ∧ (d.wrote b x 4).n = d.n ∧ (d.wrote b x 4).fuse = d.fuse ∧ (d.wrote b x 4).fails = d.fails := ⟨rfl, rfl, rfl, rfl, rfl⟩

end Go.Proofs.Ytehogiondcpbcaa
