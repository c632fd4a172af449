/-
  Texts as lists of bytes: a slice of an array as a text, a text copied into an array; proved here: page.refText, page.payload, page.PutData, page.LSN. Proved here: seal.Cut of a block of 256 bytes is its sector or noughts, and seal.Lay is the block with another sector or as it was.
-/
import Derived.Test.YtehogiondcpbcaaJq00
namespace Go.Proofs.Ytehogiondcpbcaa
open Go.ChangeShapes Go.WideShapes Go.ChangeAt Go.RowKit
set_option linter.unusedVariables false
set_option linter.unusedSimpArgs false
set_option maxRecDepth 20000
def nums (t : ByteArray) : List Int := t.data.toList.map fun b => (b.toNat : Int)
theorem nums_length (t : ByteArray) : (nums t).length = t.size := by unfold nums; rw [List.length_map]; rfl
theorem nums_tx {l : List Int} (h : Bytes l) : nums (strOfNums l) = l := by
  unfold nums
  rw [strOfNums_data, List.map_map]
  conv => rhs; rw [← List.map_id l]
  apply List.map_congr_left
  intro x hx
  have := h x hx
  simp only [Function.comp, id]
  rw [UInt8.toNat_ofNat']
  omega
theorem nums_bytes (t : ByteArray) : Bytes (nums t) := by
  intro y hy
  obtain ⟨b, _, rfl⟩ := List.mem_map.1 hy
  have := b.toNat_lt
  omega
theorem tx_nums (t : ByteArray) : strOfNums (nums t) = t := by
  have e : (strOfNums (nums t)).data.toList = t.data.toList := by
    rw [strOfNums_data]
    unfold nums
    rw [List.map_map]
    conv => rhs; rw [← List.map_id t.data.toList]
    apply List.map_congr_left
    intro x _
    simp [Function.comp]
  have e2 : (strOfNums (nums t)).data = t.data := by rw [← Array.toArray_toList (xs := (strOfNums (nums t)).data), e]
  cases t; cases h : strOfNums (nums ⟨_⟩) with | mk d => rw [h] at e2; exact congrArg _ e2
theorem byteAt_tx {l : List Int} (h : Bytes l) (i : Nat) : byteAt (strOfNums l) i = l.getD i 0 := by
  unfold byteAt
  by_cases hi : i < l.length
  · rw [dif_pos (by rw [strOfNums_size]; exact hi)]
    have e := nums_tx h
    have : (nums (strOfNums l)).getD i 0 = l.getD i 0 := by rw [e]
    rw [← this]
    have hs : i < (strOfNums l).data.size := by have q := strOfNums_size l; have q2 : (strOfNums l).size = (strOfNums l).data.size := rfl; omega
    show (((strOfNums l).data[i]'hs).toNat : Int) = _
    unfold nums
    simp only [List.getD]
    rw [List.getElem?_map, Array.getElem?_toList, Array.getElem?_eq_getElem hs]
    rfl
  · rw [dif_neg (by rw [strOfNums_size]; exact hi)]
    simp [List.getD, List.getElem?_eq_none (by omega : l.length ≤ i)]
theorem Bytes.append {a b : List Int} (ha : Bytes a) (hb : Bytes b) : Bytes (a ++ b) := by
  intro y hy
  rcases List.mem_append.1 hy with h | h
  · exact ha y h
  · exact hb y h
theorem low_bytes (v : Int) (n : Nat) : Bytes (low v n) := by
  intro y hy
  obtain ⟨i, _, rfl⟩ := List.mem_map.1 hy
  omega
theorem zs_bytes (n : Nat) : Bytes (zs n) := by
  intro y hy
  have := List.eq_of_mem_replicate hy
  omega
theorem Bytes.sub {a b : List Int} (hb : Bytes b) (h : ∀ y ∈ a, y ∈ b) : Bytes a := fun y hy => hb y (h y hy)
theorem Bytes.splicing {l m : List Int} (o : Nat) (hl : Bytes l) (hm : Bytes m) : Bytes (splice l o m) := by
  unfold splice
  exact (hl.sub fun _ h => List.mem_of_mem_take h).append (hm.append (hl.sub fun _ h => List.mem_of_mem_drop h))
theorem tx_app {a b : List Int} : strOfNums a ++ strOfNums b = strOfNums (a ++ b) := (strOfNums_append a b).symm
theorem str_part {w : World} {g : Nat} {ys : List Int} {t : TypeId} (h : Row w g (bs ys) t) (o n c : Nat) (zsl : List Int) (hz : (ys.drop o).take n = zsl) (hn : o + n ≤ ys.length) :
    (Go.convert 81 9 (.slice (some ⟨g, o, none⟩) n c)).run Try.prog w = .ok (.string (strOfNums zsl)) w := by
  subst hz
  have hl : ((ys.drop o).take n).length = n := by simp; omega
  refine run_convert_bytes_arg (P := Try.prog) w 81 5 Try.underlying81 Try.underlying5 g o n c ((ys.drop o).take n) hl ?_ 9 Try.underlying9
  intro i hi
  rw [row_cell h (o + i) (by omega)]
  simp [List.getD, hi]
theorem str_row {w : World} {g : Nat} {ys : List Int} {t : TypeId} (h : Row w g (bs ys) t) (n c : Nat) (hn : ys.length = n) :
    (Go.convert 81 9 (.slice (some ⟨g, 0, none⟩) n c)).run Try.prog w = .ok (.string (strOfNums ys)) w :=
  str_part h 0 n c ys (by rw [List.drop_zero, List.take_of_length_le (by omega)]) (by omega)
def laidIn (cur : Array Value) (off : Nat) (ys : List Int) : Array Value := (cur.toList.take off ++ (bs ys).toList ++ cur.toList.drop (off + ys.length)).toArray
theorem laidIn_bs (cur : List Int) (off : Nat) (ys : List Int) : laidIn (bs cur) off ys = bs (splice cur off ys) := by simp [laidIn, bs, splice]
theorem wp_copy_text {P : Program} {o : Oper} {a : Act} {w : World} {K : Act → World → Prop} {Q : Exit → Act → World → Prop} (d s : Operand) (dT sT : TypeId)
    (ho : o.op = .call { callee := .builtin .copy, args := #[d, s], argTypes := #[dT, sT] }) (elem : TypeId) (hu : P.underlying dT = some (.slice elem)) (hsz : (P.info? elem).map (·.size) = some 1)
    (g off dLen dCap : Nat) (hd : a.eval d = .slice (some ⟨g, off, none⟩) dLen dCap) (l : List Int) (hl : Bytes l) (hs : a.eval s = .string (strOfNums l))
    (cur : Array Value) (ty : TypeId) (hg : Row w g cur ty) (hle : l.length ≤ dLen) (hfit : off + l.length ≤ cur.size) (n : Int) (hn : n = l.length)
    (h : K (a.put o.dst (.int .i64 n)) (w.setRow g (laidIn cur off l))) : Oper.wp P o a w K Q := by
  subst hn
  have hlen := strOfNums_size l
  have hst := run_storeCells_at (P := P) g off ty (bs l).toList 0 cur w hg (by simpa [bs] using hfit) (by intro v hv; have := bs_one l; rw [Array.all_eq_true_iff_forall_mem] at this; exact this v (by simpa using hv))
  have e : (cur.toList.take (off + 0) ++ (bs l).toList ++ cur.toList.drop (off + 0 + (bs l).toList.length)).toArray = laidIn cur off l := by
    simp [bs, laidIn]
  rw [e] at hst
  have hmin : Nat.min (strOfNums l).size dLen = l.length := by rw [hlen]; exact Nat.min_eq_left hle
  have hrun : (Builtin.copy_ #[dT, sT] o.type #[.slice (some ⟨g, off, none⟩) dLen dCap, .string (strOfNums l)]).run P w = .ok (goInt l.length) (w.setRow g (laidIn cur off l)) := by
    cases hq : P.info? elem with
    | none => simp [hq] at hsz
    | some i =>
      have hi : i.size = 1 := by simpa [hq] using hsz
      have e4 : List.take l.length (List.map (fun b => Value.int .u8 (b.toNat : Int)) (strOfNums l).data.toList) = (bs l).toList := by
        rw [List.take_of_length_le (by rw [List.length_map, strOfNums_data]; simp)]
        have := nums_tx hl
        unfold nums at this
        have e5 : (bs l).toList = l.map (Value.int .u8) := by simp [bs]
        rw [e5]
        conv => rhs; rw [← this]
        rw [List.map_map]; rfl
      simp [Builtin.copy_, run_underlying hu, Builtin.lenOf, Builtin.firstCells, sizeOf, typeInfo, hq, hi, hmin, e4, hst]
  unfold Oper.wp
  simp [execOp, ho, resolve, invoke, builtin, hd, hs, hrun, Result.andThen]
  exact h
theorem step_copy_text {P : Program} {ops : Array Oper} {o : Oper} {a : Act} {w : World} {K : Act → World → Prop} {Q : Exit → Act → World → Prop} {E : Prop} (hgd : o.guard = none) (d s : Operand) (dT sT : TypeId)
    (ho : o.op = .call { callee := .builtin .copy, args := #[d, s], argTypes := #[dT, sT] }) (elem : TypeId) (hu : P.underlying dT = some (.slice elem)) (hsz : (P.info? elem).map (·.size) = some 1)
    (g off dLen dCap : Nat) (hd : a.eval d = .slice (some ⟨g, off, none⟩) dLen dCap) (l : List Int) (hl : Bytes l) (hs : a.eval s = .string (strOfNums l))
    (cur : Array Value) (ty : TypeId) (hg : Row w g cur ty) (hle : l.length ≤ dLen) (hfit : off + l.length ≤ cur.size) (n : Int) (hn : n = l.length)
    (h : K (a.put o.dst (.int .i64 n)) (w.setRow g (laidIn cur off l))) :
    if Region.wanted o (yielded ops a.tmps) = true then Oper.wp P o a w K Q else E := by
  have hw : Region.wanted o (yielded ops a.tmps) = true := by simp [Region.wanted, hgd]
  rw [if_pos hw]
  exact wp_copy_text d s dT sT ho elem hu hsz g off dLen dCap hd l hl hs cur ty hg hle hfit n hn h
theorem copy_text {P : Program} {ops : Array Oper} {rest : List Oper} {o : Oper} {a : Act} {w : World} {Q : Exit → Act → World → Prop} (hgd : o.guard = none) (d s : Operand) (dT sT : TypeId)
    (ho : o.op = .call { callee := .builtin .copy, args := #[d, s], argTypes := #[dT, sT] }) (elem : TypeId) (hu : P.underlying dT = some (.slice elem)) (hsz : (P.info? elem).map (·.size) = some 1)
    (g off dLen dCap : Nat) (hd : a.eval d = .slice (some ⟨g, off, none⟩) dLen dCap) (l : List Int) (hl : Bytes l) (hs : a.eval s = .string (strOfNums l))
    (cur : Array Value) (ty : TypeId) (hg : Row w g cur ty) (hle : l.length ≤ dLen) (hfit : off + l.length ≤ cur.size) (n : Int) (hn : n = l.length)
    (h : wpList P ops Q rest (a.put o.dst (.int .i64 n)) (w.setRow g (laidIn cur off l))) : wpList P ops Q (o :: rest) a w :=
  wpList_plain hgd fun _ hK => wp_copy_text d s dT sT ho elem hu hsz g off dLen dCap hd l hl hs cur ty hg hle hfit n hn (hK _ _ h)
theorem put_at (v : Int) (n : Nat) (r : List Int) (hr : low v n = r) (hv : 0 ≤ v) (hv' : v ≤ 18446744073709551615) (hn : n ≤ 8) (w : World) :
    Calls Try.prog 72 #[.int .u64 v, .int .i64 n] w fun e w' => e = .returned (.string (strOfNums r)) ∧ Below w.heap.size w w' := by subst hr; exact put_any v n w hv hv' hn
def getN (s : ByteArray) (a n : Nat) : Int := if a + n ≤ s.size then num s a n else 0
theorem getN_fits (s : ByteArray) (a n : Nat) : 0 ≤ getN s a n ∧ getN s a n < 2 ^ (8 * n) := by
  unfold getN
  split
  · exact num_fits s a n
  · exact ⟨by omega, Int.pow_pos (by decide)⟩
theorem get_all (s : ByteArray) (a n : Nat) (hs : s.size ≤ maxLen) (hn : n ≤ 8) (ha : a ≤ 1000000000) (w : World) :
    Calls Try.prog 42 #[.string s, .int .i64 a, .int .i64 n] w fun e w' => e = .returned (.tuple #[.int .u64 (getN s a n), .bool (decide (a + n ≤ s.size))]) ∧ w' = w := by
  unfold getN
  by_cases h : a + n ≤ s.size
  · rw [if_pos h, decide_eq_true h]; exact get_any s a n w hs hn h
  · rw [if_neg h, decide_eq_false h]; exact get_none s a n w hs (by omega) (by omega)
theorem step_of {P : Program} {ops : Array Oper} {o : Oper} {a : Act} {w : World} {K : Act → World → Prop} {Q : Exit → Act → World → Prop} {E : Prop} (hgd : o.guard = none) (h : Oper.wp P o a w K Q) :
    if Region.wanted o (yielded ops a.tmps) = true then Oper.wp P o a w K Q else E := by
  have hw : Region.wanted o (yielded ops a.tmps) = true := by simp [Region.wanted, hgd]
  rw [if_pos hw]; exact h
theorem row_at {w : World} {g : Nat} {cs : Array Value} {t : TypeId} (h : Row w g cs t) (j : Nat) (v : Value) (hv : cs[j]? = some v) : w.cell? ⟨g, j, none⟩ = some v := by
  rw [cell_of_row w g j _ _ _ h, hv]
theorem row_set {w : World} {g : Nat} {cs : Array Value} {t : TypeId} (h : Row w g cs t) (j : Nat) (x : Value) : Row (w.setCell ⟨g, j, none⟩ x) g (cs.setIfInBounds j x) t := by
  rw [setCell_eq_setRow w g j cs t (0, 0) _ h]; exact h.set _
theorem step_cells {P : Program} {ops : Array Oper} {o : Oper} {a : Act} {w : World} {K : Act → World → Prop} {Q : Exit → Act → World → Prop} {E : Prop} (hgd : o.guard = none) (ty : TypeId) (x y : Operand) (ho : o.op = .store ty x y)
    (g : Nat) (cs : Array Value) (hx : a.eval x = .pointer (some ⟨g, 0, none⟩)) (hy : a.eval y = .agg cs)
    (t : TypeId) (old : Array Value) (hg : Row w g old t) (n : Nat) (hi : (P.info? ty).map (·.size) = some n)
    (hold : old.size = n) (hn : cs.size = n) (h1 : cs.all (·.oneCell') = true) (h : K (a.put o.dst undef) (w.setRow g cs)) :
    if Region.wanted o (yielded ops a.tmps) = true then Oper.wp P o a w K Q else E := by
  have hw : Region.wanted o (yielded ops a.tmps) = true := by simp [Region.wanted, hgd]
  rw [if_pos hw]
  exact wp_store_row ty x y ho g cs hx hy t old hg (by rw [hi, hn]) (by rw [hold, hn]) h1 h
theorem ret_cell {P : Program} {fn : Func} {p : Tmp} {ty : TypeId} (h : fn.results = #[.cell p ty]) (tmps : Array Value) (w : World) (g : Nat) (t : TypeId) (cs : Array Value) (d : TypeDesc)
    (hp : tmps.getD p undef = .pointer (some ⟨g, 0, none⟩)) (hg : Row w g cs t)
    (hu : P.underlying ty = some d) (hd : (match d with | .struct _ | .array _ _ => true | _ => false) = true) (hi : (P.info? ty).map (·.size) = some cs.size) :
    (results fn tmps).run P w = .ok (.agg cs) w := results_cell_row h tmps w g t cs (0, 0) d hp hg hu hd hi
theorem ret_cell2 {P : Program} {fn : Func} {p c : Tmp} {ty : TypeId} (h : fn.results = #[.cell p ty, .tmp c]) (tmps : Array Value) (w : World) (g : Nat) (t : TypeId) (cs : Array Value) (d : TypeDesc) (y : Value)
    (hp : tmps.getD p undef = .pointer (some ⟨g, 0, none⟩)) (hc : tmps.getD c undef = y) (hg : Row w g cs t)
    (hu : P.underlying ty = some d) (hd : (match d with | .struct _ | .array _ _ => true | _ => false) = true) (hi : (P.info? ty).map (·.size) = some cs.size) :
    (results fn tmps).run P w = .ok (.tuple #[.agg cs, y]) w := by
  have hp' : tmps[p]?.getD undef = .pointer (some ⟨g, 0, none⟩) := by simpa using hp
  have hc' : tmps[c]?.getD undef = y := by simpa using hc
  simp [results, h, hp', hc', asAddr, run_loadVar_row w g t ty cs (0, 0) _ hg hu hd hi]
theorem load_cells {P : Program} {ops : Array Oper} {rest : List Oper} {o : Oper} {a : Act} {w : World} {Q : Exit → Act → World → Prop} (hgd : o.guard = none) (ty : TypeId) (x : Operand) (ho : o.op = .load ty x)
    (g : Nat) (hx : a.eval x = .pointer (some ⟨g, 0, none⟩)) (t : TypeId) (cs : Array Value) (hg : Row w g cs t) (n : Nat) {d : TypeDesc}
    (hu : P.underlying ty = some d) (hd : (match d with | .struct _ | .array _ _ => true | _ => false) = true) (hi : (P.info? ty).map (·.size) = some n) (hn : cs.size = n)
    (h : wpList P ops Q rest (a.put o.dst (.agg cs)) w) : wpList P ops Q (o :: rest) a w :=
  wpList_load_row hgd ty x ho g hx t cs (0, 0) _ hg hu hd (by rw [hi, hn]) h
theorem yields_cells {P : Program} {ops : Array Oper} {S : World → Prop} {o : Oper} {a : Act} (hw : Region.wanted o (yielded ops a.tmps) = true) (ty : TypeId) (x : Operand) (ho : o.op = .load ty x)
    (g : Nat) (hx : a.eval x = .pointer (some ⟨g, 0, none⟩)) (t : TypeId) (cs : Array Value) (hg : ∀ w, S w → Row w g cs t) (n : Nat) {d : TypeDesc}
    (hu : P.underlying ty = some d) (hd : (match d with | .struct _ | .array _ _ => true | _ => false) = true) (hi : (P.info? ty).map (·.size) = some n) (hn : cs.size = n) : YieldsIf P ops S o (.agg cs) a := by
  refine Or.inl ⟨hw, fun w hS => ?_⟩
  unfold execOp
  simp only [ho, hx, Instr.loadAt, Instr.sureAddr, Sem.run_bind, Sem.run_pure, Result.andThen_ok, run_loadVar_row w g t ty cs (0, 0) _ (hg w hS) hu hd (by rw [hi, hn])]
theorem yields_neq {P : Program} {ops : Array Oper} {S : World → Prop} {o : Oper} {a : Act} (hw : Region.wanted o (yielded ops a.tmps) = true) (ty ty' : TypeId) (x y : Operand) (ho : o.op = .binOp .neq ty x y ty')
    (xs ys : Array Value) (hx : a.eval x = .agg xs) (hy : a.eval y = .agg ys) (hm : P.eqGuardType P.depth ty = false) (b : Bool) (hr : ∀ w, (Op.equalIn 10000 ty (.agg xs) (.agg ys)).run P w = .ok b w) : YieldsIf P ops S o (.bool (!b)) a := by
  refine Or.inl ⟨hw, fun w hS => ?_⟩
  unfold execOp
  simp only [ho, hx, hy, Sem.run_bind, run_eqGuard_agg w .neq ty x y xs ys hm, Result.andThen_ok, run_neq_struct, hr, Sem.run_pure]
theorem load_cells_g {P : Program} {ops : Array Oper} {rest : List Oper} {o : Oper} {a : Act} {w : World} {Q : Exit → Act → World → Prop} (hw : Region.wanted o (yielded ops a.tmps) = true) (ty : TypeId) (x : Operand) (ho : o.op = .load ty x)
    (g : Nat) (hx : a.eval x = .pointer (some ⟨g, 0, none⟩)) (t : TypeId) (cs : Array Value) (hg : Row w g cs t) (n : Nat) {d : TypeDesc}
    (hu : P.underlying ty = some d) (hd : (match d with | .struct _ | .array _ _ => true | _ => false) = true) (hi : (P.info? ty).map (·.size) = some n) (hn : cs.size = n)
    (h : wpList P ops Q rest (a.put o.dst (.agg cs)) w) : wpList P ops Q (o :: rest) a w :=
  BigFrame.wpList_want hw fun _ hK => wp_load_row ty x ho g hx t cs (0, 0) _ hg hu hd (by rw [hi, hn]) (hK _ _ h)
theorem rput_at (v : Int) (n : Nat) (r : List Int) (hr : low v n = r) (hv : 0 ≤ v) (hv' : v ≤ 18446744073709551615) (hn : n ≤ 8) (w : World) :
    Calls Try.prog 87 #[.int .u64 v, .int .i64 n] w fun e w' => e = .returned (.string (strOfNums r)) ∧ Below w.heap.size w w' := by subst hr; exact rput_any v n w hv hv' hn
theorem zs_snoc (k : Nat) : zs k ++ [0] = zs (k + 1) := by unfold zs; rw [List.replicate_succ']
theorem low_one (k : Int) (h : 0 ≤ k ∧ k ≤ 255) : low k 1 = [k] := by
  simp [low]; omega
theorem yields_build {P : Program} {ops : Array Oper} {S : World → Prop} {o : Oper} {a : Act} (hw : Region.wanted o (yielded ops a.tmps) = true) (t : TypeId) (parts : Array (Nat × Operand)) (ho : o.op = .build t parts)
    (vs : List (Nat × Value)) (hv : parts.toList.map (fun x => (x.1, a.eval x.2)) = vs) (cs : Array Value) (hb : P.built t vs = some cs) : YieldsIf P ops S o (.agg cs) a := by
  refine Or.inl ⟨hw, fun w hS => ?_⟩
  have e : (parts.map fun (i, x) => (i, a.eval x)).toList = vs := by rw [← hv, Array.toList_map]
  unfold execOp
  simp only [ho, Sem.run_bind, run_build w t _ cs (by rw [e]; exact hb), Result.andThen_ok, Sem.run_pure]
theorem mod_mul_int (v p : Int) (hv : 0 ≤ v) (hp : 0 ≤ p) : v % p + v / p % 256 * p = v % (p * 256) := by
  obtain ⟨n, rfl⟩ := Int.eq_ofNat_of_zero_le hv
  obtain ⟨m, rfl⟩ := Int.eq_ofNat_of_zero_le hp
  have e : n % (m * 256) = n % m + (n / m) % 256 * m := by rw [Nat.mod_mul, Nat.mul_comm m]
  have e' : ((n % (m * 256) : Nat) : Int) = ((n % m + (n / m) % 256 * m : Nat) : Int) := by rw [e]
  simp only [Int.natCast_emod, Int.natCast_add, Int.natCast_mul, Int.natCast_ediv, Int.cast_ofNat_Int] at e'
  exact e'.symm
theorem num_tx {l : List Int} (hl : Bytes l) (v : Int) (hv : 0 ≤ v) (a : Nat) : ∀ n, (∀ k, k < n → l.getD (a + k) 0 = v / 2 ^ (8 * k) % 256) → num (strOfNums l) a n = v % 2 ^ (8 * n)
  | 0, _ => by simp [num, Int.emod_one]
  | n + 1, h => by
    have hp : (0 : Int) < 2 ^ (8 * n) := Int.pow_pos (by decide)
    rw [num, num_tx hl v hv a n (fun k hk => h k (by omega)), byteAt_tx hl, h n (by omega), pow8_succ]
    exact mod_mul_int v _ hv (Int.le_of_lt hp)
theorem low_getD (v : Int) (n k : Nat) (h : k < n) : (low v n).getD k 0 = v / 2 ^ (8 * k) % 256 := by simp [low, List.getD, h]
theorem getN_tx {l : List Int} (hl : Bytes l) (v : Int) (hv : 0 ≤ v) (a n : Nat) (ha : a + n ≤ l.length) (h2 : v < 2 ^ (8 * n)) (h : ∀ k, k < n → l.getD (a + k) 0 = v / 2 ^ (8 * k) % 256) : getN (strOfNums l) a n = v := by
  unfold getN
  rw [if_pos (by rw [strOfNums_size]; exact ha), num_tx hl v hv a n h, Int.emod_eq_of_lt hv h2]
theorem getD_left {a b : List Int} {j : Nat} (h : j < a.length) : (a ++ b).getD j 0 = a.getD j 0 := by simp [List.getD, List.getElem?_append_left h]
theorem getD_right {a b : List Int} {j : Nat} (h : a.length ≤ j) : (a ++ b).getD j 0 = b.getD (j - a.length) 0 := by simp [List.getD, List.getElem?_append_right h]
theorem getD_none {a : List Int} {j : Nat} (h : a.length ≤ j) : a.getD j 0 = 0 := by simp [List.getD, List.getElem?_eq_none h]
theorem zs_getD (n j : Nat) : (zs n).getD j 0 = 0 := zs_at n j
theorem list_ext (a b : List Int) (n : Nat) (ha : a.length = n) (hb : b.length = n) (h : ∀ i, i < n → a.getD i 0 = b.getD i 0) : a = b := by
  apply List.ext_getElem (by omega)
  intro i h1 h2
  have := h i (by omega)
  simpa [List.getD, h1, h2] using this
theorem part_at (A B C : List Int) (n : Nat) (hA : A.length = n) (i : Nat) (hi : i < B.length) : (A ++ (B ++ C)).getD (n + i) 0 = B.getD i 0 := by
  subst hA
  rw [getD_right (by omega), show A.length + i - A.length = i by omega, getD_left hi]
theorem ret_bool {a b : Bool} (h : a = b) : Ending.returned (.bool a) = Ending.returned (.bool b) := by rw [h]
theorem within_any (i : Int) (w : World) :
    Calls Try.prog 70 #[.int .i64 i] w fun e w' => e = .returned (.bool (decide (0 ≤ i ∧ i < 4))) ∧ w' = w := by
  by_cases h : 0 ≤ i
  · by_cases h' : i < 4
    · go_enter Try.func70, Try.ntmps70
      go_wp2
      go_ret
      exact ⟨by simp [h, h'], rfl⟩
    · go_enter Try.func70, Try.ntmps70
      go_wp2
      go_ret
      exact ⟨by simp [h, h'], rfl⟩
  · have e : decide (0 ≤ i ∧ i < 4) = false := by simp [h]
    rw [e]
    go_enter Try.func70, Try.ntmps70
    go_wp2
    go_ret
    exact ⟨rfl, rfl⟩
def cut (b : List Int) (i : Nat) : List Int := (b.drop (64 * i)).take 64
theorem cut_length (b : List Int) (i : Nat) (hb : b.length = 256) (hi : i < 4) : (cut b i).length = 64 := by simp [cut]; omega
def lay (b : List Int) (i : Nat) (s : List Int) : List Int := splice b (64 * i) s
theorem lay_length (b : List Int) (i : Nat) (s : List Int) (hb : b.length = 256) (hs : s.length = 64) (hi : i < 4) : (lay b i s).length = 256 := by
  unfold lay; rw [length_splice _ _ _ (by omega)]; exact hb
theorem splice_whole (l m : List Int) (h : l.length = m.length) : splice l 0 m = m := by simp [splice, h]
theorem cut_is (b : List Int) (i so : Nat) (hb : b.length = 256) (hi : i < 4) (hs : so = 64 * i) : splice (zs 64) 0 ((b.drop so).take 64) = cut b i := by
  subst hs
  rw [splice_whole _ _ (by simp [zs]; omega)]; rfl
theorem cut_in (b : List Int) (hb : b.length = 256) (i : Nat) (hi : i < 4) (w : World) :
    Calls Try.prog 38 #[.agg (bs b), .int .i64 i] w fun e w' => e = .returned (.agg (bs (cut b i))) ∧ Below w.heap.size w w' := by
  have hz := zero79
  have hl := cut_length b i hb hi
  have hc := fun so => cut_is b i so hb hi
  generalize cut b i = S at hl hc ⊢
  have HC : Hid (∀ so, so = 64 * i → splice (zs 64) 0 ((b.drop so).take 64) = S) := hc
  clear hc
  have hi' : i = 0 ∨ i = 1 ∨ i = 2 ∨ i = 3 := by omega
  have e0 : IntKind.i64.wrap 0 = 0 := by decide
  have e1 : IntKind.i64.wrap 64 = 64 := by decide
  have e2 : IntKind.i64.wrap 128 = 128 := by decide
  have e3 : IntKind.i64.wrap 192 = 192 := by decide
  rcases hi' with hi0 | hi0 | hi0 | hi0
  all_goals
    go_enter Try.func38, Try.ntmps38
    go_wp2_with (go_at_call 70; refine (within_any _ _).mono ?_; (try simp only [Int.cast_ofNat_Int, Int.reduceLE, Int.reduceLT]); rintro e w' ⟨rfl, rfl⟩)
    obtain ⟨w1, hw1⟩ : ∃ w1, w1 = (((w.alloc (Obj.cells (bs b) 41)).alloc (Obj.cells (bs (zs 64)) 79)).alloc (Obj.cells (bs (zs 64)) 79)) := ⟨_, rfl⟩
    have r0 : Row w1 w.heap.size (bs b) 41 := by rw [hw1]; exact ((Row.new _ _ _).alloc _).alloc _
    have r1 : Row w1 (w.heap.size + 1) (bs (zs 64)) 79 := by rw [hw1]; have := (Row.new (w.alloc (Obj.cells (bs b) 41)) (bs (zs 64)) 79).alloc (Obj.cells (bs (zs 64)) 79); simpa using this
    have r2 : Row w1 (w.heap.size + 1 + 1) (bs (zs 64)) 79 := by rw [hw1]; have := (Row.new ((w.alloc (Obj.cells (bs b) 41)).alloc (Obj.cells (bs (zs 64)) 79)) (bs (zs 64)) 79); simpa using this
    have hb1 : Below w.heap.size w w1 := by rw [hw1]; exact ((((Below.refl _ _).alloc (Nat.le_refl _) _).alloc (by simp) _).alloc (by simp; omega) _)
    rw [← hw1]
    clear hw1
    have hA : 0 + 64 ≤ (zs 64).length := by rw [zs_length]; decide
    go_region_law (refine step_copy rfl (.tmp 8) (.tmp 11) 81 81 rfl 5 Try.underlying81 size5 (w.heap.size + 1 + 1) 0 64 64 w.heap.size _ _ _ rfl rfl (zs 64) b 79 41 r2 r0 64 rfl hA (by omega) S (HC.out _ (by omega)) ?_)
    have r2' : Row (w1.drew.setRow (w.heap.size + 1 + 1) (bs S)) (w.heap.size + 1 + 1) (bs S) 79 := r2.set (bs S)
    have r1' : Row (w1.drew.setRow (w.heap.size + 1 + 1) (bs S)) (w.heap.size + 1) (bs (zs 64)) 79 := r1.other (show w.heap.size + 1 ≠ w.heap.size + 1 + 1 by omega) (bs S)
    have hb2 : Below w.heap.size w (w1.drew.setRow (w.heap.size + 1 + 1) (bs S)) := below_setRow hb1.drew (by omega) _
    clear r0 r1 r2 hb1
    generalize w1.drew.setRow (w.heap.size + 1 + 1) (bs S) = w2 at r1' r2' hb2 ⊢
    go_wp2_with (first
      | (refine load_row rfl 79 (.tmp 5) rfl (w.heap.size + 1 + 1) rfl 79 (bs S) r2' 64 5 Try.underlying79 size79 (by rw [bs_size, hl]) ?_)
      | (refine store_row rfl 79 (.tmp 4) (.tmp 13) rfl (w.heap.size + 1) S rfl rfl 79 _ r1' 64 size79 (by rw [bs_size, zs_length]) hl ?_))
    refine bodyPost_ret (v := .agg (bs S)) ?_ rfl ⟨rfl, below_setRow hb2 (by omega) _⟩
    exact ret_row (fn := Try.f38) rfl _ _ (w.heap.size + 1) 79 (bs S) 64 5 rfl (r1'.set _) Try.underlying79 size79 (by rw [bs_size, hl])
theorem lay_is (b : List Int) (i so : Nat) (s : List Int) (hs : s.length = 64) (ho : so = 64 * i) : splice b so ((s.drop 0).take 64) = lay b i s := by
  subst ho
  rw [List.drop_zero, List.take_of_length_le (by omega)]; rfl
theorem lay_in (b s : List Int) (hb : b.length = 256) (hs : s.length = 64) (i : Nat) (hi : i < 4) (w : World) :
    Calls Try.prog 41 #[.agg (bs b), .int .i64 i, .agg (bs s)] w fun e w' => e = .returned (.agg (bs (lay b i s))) ∧ Below w.heap.size w w' := by
  have hz := zero41
  have hl := lay_length b i s hb hs hi
  have hc := fun so => lay_is b i so s hs
  generalize lay b i s = S at hl hc ⊢
  have HC : Hid (∀ so, so = 64 * i → splice b so ((s.drop 0).take 64) = S) := hc
  clear hc
  have hi' : i = 0 ∨ i = 1 ∨ i = 2 ∨ i = 3 := by omega
  have e0 : IntKind.i64.wrap 0 = 0 := by decide
  have e1 : IntKind.i64.wrap 64 = 64 := by decide
  have e2 : IntKind.i64.wrap 128 = 128 := by decide
  have e3 : IntKind.i64.wrap 192 = 192 := by decide
  rcases hi' with hi0 | hi0 | hi0 | hi0
  all_goals
    go_enter Try.func41, Try.ntmps41
    go_wp2_with (go_at_call 70; refine (within_any _ _).mono ?_; (try simp only [Int.cast_ofNat_Int, Int.reduceLE, Int.reduceLT]); rintro e w' ⟨rfl, rfl⟩)
    obtain ⟨w1, hw1⟩ : ∃ w1, w1 = (((w.alloc (Obj.cells (bs b) 41)).alloc (Obj.cells (bs s) 79)).alloc (Obj.cells (bs (zs 256)) 41)) := ⟨_, rfl⟩
    have r0 : Row w1 w.heap.size (bs b) 41 := by rw [hw1]; exact ((Row.new _ _ _).alloc _).alloc _
    have r1 : Row w1 (w.heap.size + 1) (bs s) 79 := by rw [hw1]; have := (Row.new (w.alloc (Obj.cells (bs b) 41)) (bs s) 79).alloc (Obj.cells (bs (zs 256)) 41); simpa using this
    have r2 : Row w1 (w.heap.size + 1 + 1) (bs (zs 256)) 41 := by rw [hw1]; have := (Row.new ((w.alloc (Obj.cells (bs b) 41)).alloc (Obj.cells (bs s) 79)) (bs (zs 256)) 41); simpa using this
    have hb1 : Below w.heap.size w w1 := by rw [hw1]; exact ((((Below.refl _ _).alloc (Nat.le_refl _) _).alloc (by simp) _).alloc (by simp; omega) _)
    rw [← hw1]
    clear hw1
    go_region_law (refine step_copy rfl (.tmp 11) (.tmp 12) 81 81 rfl 5 Try.underlying81 size5 w.heap.size _ _ _ (w.heap.size + 1) 0 64 64 rfl rfl b s 41 79 r0 r1 64 rfl (by omega) (by omega) S (HC.out _ (by omega)) ?_)
    all_goals
      have r2' : Row (w1.drew.setRow w.heap.size (bs S)) (w.heap.size + 1 + 1) (bs (zs 256)) 41 := r2.other (show w.heap.size + 1 + 1 ≠ w.heap.size by omega) (bs S)
      have r0' : Row (w1.drew.setRow w.heap.size (bs S)) w.heap.size (bs S) 41 := r0.set (bs S)
      have hb2 : Below w.heap.size w (w1.drew.setRow w.heap.size (bs S)) := below_setRow hb1.drew (by omega) _
      clear r0 r1 r2 hb1
      generalize w1.drew.setRow w.heap.size (bs S) = w2 at r0' r2' hb2 ⊢
      go_wp2_with (first
        | (refine load_row rfl 41 (.tmp 3) rfl w.heap.size rfl 41 (bs S) r0' 256 5 Try.underlying41 size41 (by rw [bs_size, hl]) ?_)
        | (refine store_row rfl 41 (.tmp 6) (.tmp 14) rfl (w.heap.size + 1 + 1) S rfl rfl 41 _ r2' 256 size41 (by rw [bs_size, zs_length]) hl ?_))
      refine bodyPost_ret (v := .agg (bs S)) ?_ rfl ⟨rfl, below_setRow hb2 (by omega) _⟩
      exact ret_row (fn := Try.f41) rfl _ _ (w.heap.size + 1 + 1) 41 (bs S) 256 5 rfl (r2'.set _) Try.underlying41 size41 (by rw [bs_size, hl])
end Go.Proofs.Ytehogiondcpbcaa
