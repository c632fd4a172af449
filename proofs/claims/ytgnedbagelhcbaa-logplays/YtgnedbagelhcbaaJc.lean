/-
  Proved here: what disk.New makes, and the block that the statements fill with bytes. Plain facts on pending writes as cells: a struct of a key and a sector, built, loaded whole and in its parts. Plain facts for regions: a store into a map, a slice of one struct, an append to a slice of structs. Proved here: a round of disk.Write: one sector is laidD over the fresh ones, and stands behind the pending ones. Proved here: what disk.Write answers and leaves. Proved here: disk.Write where it is refused; that what was written is read (the statements' own fixed run). Proved here: what the calls of a disk that is not there answer.
-/
import Derived.Test.YtgnedbagelhcbaaJb
import Derived.Deep.MidRow
import Derived.Great.BuildSlice
import Derived.Maps.AppendAt
namespace Go.Proofs.Ytgnedbagelhcbaa
open Go.ChangeShapes Go.WideShapes Go.ChangeAt Go.RowKit
set_option linter.unusedVariables false
set_option linter.unusedSimpArgs false
set_option maxRecDepth 20000
def Dsk.new (n : Nat) : Dsk := ⟨n, fun _ _ => none, [], false, 0, 0, fun _ => false⟩
def Loc.new (k : Nat) : Loc := ⟨k, k + 1, .slice none 0 0, .map none⟩
theorem new_at (w : World) (n : Nat) (h1 : 1 ≤ n) (h2 : n ≤ 2048) : DAt (((w.alloc (.map #[] 0)).alloc (.map #[] 0)).alloc (.cells (dcells (Dsk.new n) (Loc.new w.heap.size)) 95)) (w.heap.size + 2) (Dsk.new n) (Loc.new w.heap.size) 0 where
  row := by have := Row.new ((w.alloc (.map #[] 0)).alloc (.map #[] 0)) (dcells (Dsk.new n) (Loc.new w.heap.size)) 95; simpa using this
  sure := ⟨0, ((SMap.made w).kept (Below.heap_alloc _ _ _ (by simp))).kept (Below.heap_alloc _ _ _ (by simp [Loc.new]; omega)), Nat.le_refl _⟩
  fresh := by
    have := (SMap.made (w.alloc (.map #[] 0))).kept (w' := ((w.alloc (.map #[] 0)).alloc (.map #[] 0)).alloc (.cells (dcells (Dsk.new n) (Loc.new w.heap.size)) 95)) (Below.heap_alloc _ _ _ (by simp))
    simpa [Loc.new, Dsk.new, over] using this
  ab := by simp [Loc.new]
  pend := World.ownsRow_nil _ _ _ _
  fails := FMap.none _
  fa := by simp [Loc.new]
  fb := by simp [Loc.new]
  big := by decide
  okp := fun q hq => nomatch hq
  small := ⟨h1, h2⟩
  opsn := by simp [Dsk.new]
  fusew := wf_of (by simp [Dsk.new]) (by simp [Dsk.new])
theorem new_walk (n : Nat) (h1 : 1 ≤ n) (h2 : n ≤ 2048) (w : World) :
    Calls Try.prog 9 #[.int .i64 n] w fun e w' => e = .returned (.pointer (some ⟨w.heap.size + 1 + 1, 0, none⟩)) ∧ w' = (((w.alloc (.map #[] 0)).alloc (.map #[] 0)).alloc (.cells (dcells (Dsk.new n) (Loc.new w.heap.size)) 95)) := by
  have hmm := @run_makeMap Try.prog
  have k1 : ¬ (n : Int) < 1 := by omega
  have k2 : ¬ (n : Int) > 2048 := by omega
  go_enter Try.func9, Try.ntmps9
  go_wp2
  go_ret
  exact ⟨rfl, rfl⟩
theorem new_some (n : Nat) (h1 : 1 ≤ n) (h2 : n ≤ 2048) (w : World) :
    Calls Try.prog 9 #[.int .i64 n] w fun e w' => e = .returned (.pointer (some ⟨w.heap.size + 2, 0, none⟩)) ∧ DAt w' (w.heap.size + 2) (Dsk.new n) (Loc.new w.heap.size) 0 ∧ Below w.heap.size w w' := by
  refine (new_walk n h1 h2 w).mono ?_
  rintro e w' ⟨rfl, rfl⟩
  exact ⟨rfl, new_at w n h1 h2, (((Below.refl _ _).alloc (Nat.le_refl _) _).alloc (by simp) _).alloc (by simp; omega) _⟩
end Go.Proofs.Ytgnedbagelhcbaa
namespace Go.Proofs.Ytgnedbagelhcbaa
open Go.ChangeShapes Go.WideShapes Go.ChangeAt Go.RowKit
set_option linter.unusedVariables false
set_option linter.unusedSimpArgs false
set_option maxRecDepth 20000
theorem splice_set {α : Type} (L : List α) (o : Nat) (x : α) (r : List α) (h : o < L.length) : splice (L.set o x) (o + 1) r = splice L o (x :: r) := by
  unfold splice
  have e1 : (L.set o x).take (o + 1) = L.take o ++ [x] := by
    rw [List.take_add_one, List.take_set_of_le (by omega)]
    simp [h]
  have e2 : (L.set o x).drop (o + 1 + r.length) = L.drop (o + (x :: r).length) := by
    rw [List.drop_set_of_lt (by omega)]
    simp; congr 1; omega
  rw [e1, e2]; simp
theorem fold_set : ∀ (l : List Value) (n off : Nat) (cs : Array Value), off + n + l.length ≤ cs.size → (l.zipIdx n).foldl (fun cs (p : Value × Nat) => cs.setIfInBounds (off + p.2) p.1) cs = (⟨splice cs.toList (off + n) l⟩ : Array Value)
  | [], n, off, cs, h => by simp [splice]
  | x :: r, n, off, cs, h => by
    rw [List.zipIdx_cons, List.foldl_cons, fold_set r (n + 1) off _ (by simp at h ⊢; omega)]
    congr 1
    simp only [Array.toList_setIfInBounds]
    have := splice_set cs.toList (off + n) x r (by simp at h ⊢; omega)
    rw [← this]; rfl
theorem fold_arr (v : Array Value) (off : Nat) (cs : Array Value) (h : off + v.size ≤ cs.size) : v.zipIdx.foldl (fun cs (p : Value × Nat) => cs.setIfInBounds (off + p.2) p.1) cs = (⟨splice cs.toList off v.toList⟩ : Array Value) := by
  rw [← Array.foldl_toList, Array.toList_zipIdx]
  exact fold_set v.toList 0 off cs (by simpa using h)
theorem fill_step (place : Nat → Option (Nat × Nat)) (cells : Array Value) (i : Nat) (v : Value) (rest : List (Nat × Value)) (off size : Nat) (hp : place i = some (off, size)) (h1 : v.cells.size = size) (h2 : off + size ≤ cells.size) :
    Instr.fill place cells ((i, v) :: rest) = Instr.fill place ⟨splice cells.toList off v.cells.toList⟩ rest := by
  have : ¬ (decide (v.cells.size ≠ size) || decide (off + v.cells.size > cells.size)) = true := by simp [h1]; omega
  rw [Instr.fill, hp]
  simp only []
  rw [if_neg this]
  have := fold_arr v.cells off cells (by omega)
  rw [← this]
def wcells (b s : Int) (xs : List Int) : Array Value := (pcell (b, s, xs)).toArray
theorem wcells_size (b s : Int) (xs : List Int) (h : xs.length = 64) : (wcells b s xs).size = 66 := by simp [wcells, pcell, h]
theorem wcells_one (b s : Int) (xs : List Int) : (wcells b s xs).all (·.oneCell') = true := by simp [wcells, pcell, Value.oneCell']
theorem info124 : (Try.prog.info? 124).map (fun i => (i.zero, i.size, i.bytes)) = some (some (.agg (wcells 0 0 (zs 64))), 66, 80) := by kernel_rfl
theorem size117 : (Try.prog.info? 117).map (·.size) = some 2 := by kernel_rfl
theorem size124 : (Try.prog.info? 124).map (·.size) = some 66 := by kernel_rfl
theorem zero124 (w : World) : (zeroValue 124).run Try.prog w = .ok (.agg (wcells 0 0 (zs 64))) w := (zero_of_info (P := Try.prog) (t := 124) (v := .agg (wcells 0 0 (zs 64))) (n := 66) (by kernel_rfl)).1 w
theorem built124 (b s : Int) (xs : List Int) (h : xs.length = 64) : Try.prog.built 124 [(0, .agg #[.int .i64 b, .int .i64 s]), (1, .agg (bs xs))] = some (wcells b s xs) := by
  unfold Program.built
  have h81 := info124
  cases hq : Try.prog.info? 124 with
  | none => simp [hq] at h81
  | some it =>
    simp [hq] at h81
    rw [Try.underlying124]
    cases h74 : Try.prog.info? 117 with
    | none => have := size117; simp [h74] at this
    | some i74 =>
      cases h71 : Try.prog.info? 114 with
      | none => have := size114; simp [h71] at this
      | some i71 =>
        have e74 := size117; have e71 := size114
        simp [h74] at e74; simp [h71] at e71
        simp [h74, h71, h81.1, e74, e71]
        have hz : (wcells 0 0 (zs 64)).size = 66 := wcells_size _ _ _ (zs_length 64)
        have hz2 : (⟨splice (wcells 0 0 (zs 64)).toList 0 #[Value.int .i64 b, Value.int .i64 s].toList⟩ : Array Value).size = 66 := by
          simp [splice, wcells, pcell, zs]
        have hz0 : (Value.agg (wcells 0 0 (zs 64))).cells = wcells 0 0 (zs 64) := rfl
        rw [hz0, fill_step _ _ 0 _ _ 0 2 rfl rfl (by omega), fill_step _ _ 1 _ _ 2 64 rfl (by show (bs xs).size = 64; rw [bs_size, h]) (by show 2 + 64 ≤ Array.size _; exact Nat.le_of_eq hz2.symm)]
        unfold Instr.fill
        congr 1
        show (⟨splice (splice (wcells 0 0 (zs 64)).toList 0 [Value.int .i64 b, Value.int .i64 s]) 2 (bs xs).toList⟩ : Array Value) = wcells b s xs
        unfold wcells pcell bs
        simp [splice, zs, h]
theorem build_two {P : Program} {ops : Array Oper} {rest : List Oper} {o : Oper} {a : Act} {w : World} {Q : Exit → Act → World → Prop} (hg : o.guard = none) (t : TypeId) (x y : Operand) (ho : o.op = .build t #[(0, x), (1, y)]) (u v : Value) (hx : a.eval x = u) (hy : a.eval y = v) (cs : Array Value)
    (hb : P.built t [(0, u), (1, v)] = some cs) (h : wpList P ops Q rest (a.put o.dst (.agg cs)) w) : wpList P ops Q (o :: rest) a w :=
  wpList_build hg t #[(0, x), (1, y)] ho (by simp [hx, hy, hb]) (by simpa [hx, hy, hb] using h)
theorem range_key {w : World} {g : Nat} {b s : Int} {xs : List Int} {t : TypeId} (h : Row w g (wcells b s xs) t) : w.rangeAt g 0 [.int .i64 b, .int .i64 s] := by
  intro j v hv
  have : j = 0 ∨ j = 1 := by
    have := (List.getElem?_eq_some_iff.1 hv).1
    simp at this; omega
  rw [cell_of_row w g _ _ _ _ h]
  rcases this with rfl | rfl <;> simpa [wcells, pcell] using hv
theorem range_sec {w : World} {g : Nat} {b s : Int} {xs : List Int} {t : TypeId} (h : Row w g (wcells b s xs) t) : w.rangeAt g 2 (xs.map (Value.int .u8)) := by
  intro j v hv
  rw [cell_of_row w g _ _ _ _ h]
  simpa [wcells, pcell, Nat.add_comm 2 j] using hv
end Go.Proofs.Ytgnedbagelhcbaa
namespace Go.Proofs.Ytgnedbagelhcbaa
open Go.ChangeShapes Go.WideShapes Go.ChangeAt Go.RowKit
set_option linter.unusedVariables false
set_option linter.unusedSimpArgs false
set_option maxRecDepth 20000
theorem wp_update {P : Program} {o : Oper} {a : Act} {w : World} {K : Act → World → Prop} {Q : Exit → Act → World → Prop} (t : TypeId) (m x y : Operand) (ho : o.op = .mapUpdate t m x y) (mv kv vv : Value) (hm : a.eval m = mv) (hx : a.eval x = kv) (hy : a.eval y = vv)
    (w' : World) (hr : (Instr.mapUpdate t mv kv vv).run P w = .ok () w') (h : K (a.put o.dst undef) w') : Oper.wp P o a w K Q := by
  unfold Oper.wp
  simp [execOp, ho, hm, hx, hy, hr, Result.andThen]
  exact h
theorem bytes124 : ∃ i, Try.prog.info? 124 = some i ∧ i.zero = some (.agg (wcells 0 0 (zs 64))) ∧ i.size = 66 ∧ i.bytes = 80 := by
  have h := info124
  cases hq : Try.prog.info? 124 with
  | none => simp [hq] at h
  | some i => simp [hq] at h; exact ⟨i, rfl, h⟩
theorem wp_slice_one {o : Oper} {a : Act} {w : World} {K : Act → World → Prop} {Q : Exit → Act → World → Prop} (x : Operand) (ho : o.op = .buildSlice 92 1 #[(0, x)]) (b s : Int) (xs : List Int) (hl : xs.length = 64) (hx : a.eval x = .agg (wcells b s xs))
    (h : K (a.put o.dst (.slice (some ⟨w.heap.size, 0, none⟩) 1 1)) (w.alloc (.cells (wcells b s xs) 124))) : Oper.wp Try.prog o a w K Q := by
  obtain ⟨i, hi, hz, hs, _⟩ := bytes124
  refine wp_buildSlice 92 124 1 _ ho (wcells b s xs) i _ Try.underlying92 hi hz (by rw [hs]; decide) (by rw [hs]; decide) ?_ h
  have e1 : (#[(0, x)].map fun (i, x) => (i, a.eval x)).toList = [(0, .agg (wcells b s xs))] := by simp [hx]
  rw [e1, fill_step _ _ 0 (.agg (wcells b s xs)) _ 0 66 (by simp [hs]) (wcells_size b s xs hl) (by simp [hs])]
  unfold Instr.fill
  congr 1
  show (⟨splice _ 0 (wcells b s xs).toList⟩ : Array Value) = wcells b s xs
  have hc : (wcells b s xs).toList.length = 66 := by simpa using wcells_size b s xs hl
  unfold splice
  rw [List.drop_of_length_le (by rw [hc]; simp [hs])]
  simp
theorem pcells_snoc (l : List (Int × Int × List Int)) (q : Int × Int × List Int) : pcells (l ++ [q]) = pcells l ++ pcell q := by simp [pcells]
theorem pcell_one (q : Int × Int × List Int) : ∀ u ∈ pcell q, u.oneCell' = true := by
  intro u hu
  unfold pcell at hu
  simp at hu
  rcases hu with rfl | rfl | ⟨x, _, rfl⟩ <;> rfl
theorem wp_append_write {o : Oper} {a : Act} {w : World} {K : Act → World → Prop} {Q : Exit → Act → World → Prop} (s x : Operand) (ho : o.op = .call { callee := .builtin .append, args := #[s, x], argTypes := #[92, 92] })
    (g : Nat) (p : Value) (l : List (Int × Int × List Int)) (hs : a.eval s = p) (hown : w.ownsRow (g + 1) 124 66 p l.length (pcells l)) (Z : Nat) (q : Int × Int × List Int) (hx : a.eval x = .slice (some ⟨Z, 0, none⟩) 1 1)
    (hZ : Row w Z (pcell q).toArray 124) (hq : q.2.2.length = 64) (hl : l.length < 1000000000000) (hb : g + 1 ≤ w.heap.size)
    (h : ∀ r n cap w', w'.ownsRow (g + 1) 124 66 (.slice (some ⟨r, 0, none⟩) n cap) (l ++ [q]).length (pcells (l ++ [q])) → w.grownBy w' p.ownBlock → ((Value.slice (some ⟨r, 0, none⟩) n cap).ownBlock = p.ownBlock ∨ (Value.slice (some ⟨r, 0, none⟩) n cap).ownBlock = some w.heap.size) → K (a.put o.dst (.slice (some ⟨r, 0, none⟩) n cap)) w') : Oper.wp Try.prog o a w K Q := by
  obtain ⟨i, hi, hz, hsz, hby⟩ := bytes124
  obtain ⟨p', w', hr, h2, h3, h4, h5⟩ := run_append_own_at (P := Try.prog) w (g + 1) 92 o.type 124 i _ 66 80 Try.underlying92 hi hz hsz hby (wcells_size _ _ _ (zs_length 64)) (by decide) p l.length (pcells l) hown ⟨Z, 0, none⟩ 1 1 (pcell q)
    (by simp [pcell, hq]) (fun j u hj => by rw [Addr.add_mid, Nat.zero_add, cell_of_row w Z _ _ _ _ hZ]; simpa using hj) (pcell_one q) (by unfold maxLen; omega) (by omega) hb
  unfold Oper.wp execOp
  simp only [ho, resolve, invoke, builtin, Sem.run_bind, Sem.run_pure, Result.andThen_ok, List.map_toArray, List.map_cons, List.map_nil, hs, hx, hr]
  have h2' : w'.ownsRow (g + 1) 124 66 p' (l ++ [q]).length (pcells (l ++ [q])) := by rw [pcells_snoc, List.length_append]; exact h2
  rcases h2.2 with ⟨_, e0⟩ | ⟨r, cap, cur, rfl, _⟩
  · omega
  · exact h r _ cap w' h2' h3 h5
end Go.Proofs.Ytgnedbagelhcbaa
namespace Go.Proofs.Ytgnedbagelhcbaa
open Go.ChangeShapes Go.WideShapes Go.ChangeAt Go.RowKit
set_option linter.unusedVariables false
set_option linter.unusedSimpArgs false
set_option maxRecDepth 20000
theorem row_drew {w : World} {g : Nat} {cs : Array Value} {t : TypeId} (h : Row w g cs t) : Row w.drew g cs t := h
theorem pcell_length (b s : Int) (xs : List Int) (h : xs.length = 64) : (pcell (b, s, xs)).length = 66 := by simp [pcell, h]
theorem range_all {w : World} {g : Nat} {b s : Int} {xs : List Int} {t : TypeId} (h : Row w g (wcells b s xs) t) : w.rangeAt g 0 (pcell (b, s, xs)) := by
  intro j v hv
  rw [cell_of_row w g _ _ _ _ h, Nat.zero_add]
  simpa [wcells] using hv
def Dsk.push (d : Dsk) (q : Int × Int × List Int) : Dsk := { d with pend := d.pend ++ [q] }
theorem DAt.push {w w' : World} {g : Nat} {d : Dsk} {L : Loc} {N : Nat} (h : DAt w g d L N) (q : Int × Int × List Int) (hq : 0 ≤ q.1 ∧ q.1 < d.n ∧ 0 ≤ q.2.1 ∧ q.2.1 < 4 ∧ Sec q.2.2) (p' : Value) (hN : N + 1 < 1000000000000)
    (row : Row w' g (dcells d { L with p := p' }) 95) (fresh : SMap w' L.b (d.pend.length + 1) ((over (fun _ _ => none) d.pend).put q.1 q.2.1 q.2.2))
    (pend : w'.ownsRow (g + 1) 124 66 p' (d.pend ++ [q]).length (pcells (d.pend ++ [q]))) (ha : w'.heap[L.a]? = w.heap[L.a]?) (hf : ∀ m, L.f = .map (some m) → w'.heap[m]? = w.heap[m]?) : DAt w' g (d.push q) { L with p := p' } (N + 1) where
  row := row
  sure := by
    obtain ⟨s, hs, hle⟩ := h.sure
    exact ⟨s, hs.kept ha, by simp [Dsk.push]; omega⟩
  fresh := by
    have e : over (fun _ _ => none) (d.pend ++ [q]) = (over (fun _ _ => none) d.pend).put q.1 q.2.1 q.2.2 := by rw [over_append]; rfl
    show SMap w' L.b (d.pend ++ [q]).length (over (fun _ _ => none) (d.pend ++ [q]))
    rw [e, List.length_append]; exact fresh
  ab := h.ab
  pend := pend
  fails := h.fails.kept fun m e _ => hf m e
  fa := h.fa
  fb := h.fb
  big := hN
  okp := by
    intro r hr
    rcases List.mem_append.1 hr with hr | hr
    · exact h.okp r hr
    · simp at hr; subst hr; exact hq
  small := h.small
  opsn := h.opsn
  fusew := h.fusew
theorem DAt.pf {w : World} {g : Nat} {d : Dsk} {L : Loc} {N : Nat} (h : DAt w g d L N) {m : Nat} (e : L.f = .map (some m)) : L.p.ownBlock ≠ some m ∧ m < w.heap.size := by
  rcases h.fails with ⟨q, _⟩ | ⟨m', n, D, q, hD, _⟩
  · rw [q] at e; cases e
  · rw [q] at e; cases e
    have hl := hD.lt
    obtain ⟨es, clock, hb, _⟩ := hD
    exact ⟨h.pm hb, hl⟩
theorem write_after {w w3 w4 w6 : World} {g : Nat} {d : Dsk} {L : Loc} {N : Nat} {F0 : Nat → Prop} (D3 : DAt w3 g d L N) (q : Int × Int × List Int) (hq : 0 ≤ q.1 ∧ q.1 < d.n ∧ 0 ≤ q.2.1 ∧ q.2.1 < 4 ∧ Sec q.2.2) (hN : N + 1 < 1000000000000)
    (g4 : w3.grownBy w4 (some L.b)) (m4 : SMap w4 L.b (d.pend.length + 1) ((over (fun _ _ => none) d.pend).put q.1 q.2.1 q.2.2)) (p' : Value)
    (hp6 : w6.ownsRow (g + 1) 124 66 p' (d.pend ++ [q]).length (pcells (d.pend ++ [q]))) (hg6 : (w4.drew.alloc (.cells (pcell q).toArray 124)).grownBy w6 L.p.ownBlock) (hl6 : p'.ownBlock = L.p.ownBlock ∨ p'.ownBlock = some (w4.drew.alloc (.cells (pcell q).toArray 124)).heap.size)
    (X Y : Nat) (x : List Int) (cY : Array Value) (rX : Row w3 X (bs x) 56) (rY : Row w3 Y cY 124) (hY : ¬ foot g L Y) (hX : ¬ foot g L X) (O3 : Off F0 w w3) (HF : ∀ j, foot g L j → F0 j ∨ w.heap.size ≤ j) :
    w6.cell? ⟨g, 3, none⟩ = some L.p ∧ w6.frozen? ⟨g, 3, none⟩ = false ∧ Row w6 Y cY 124 ∧ DAt (w6.setCell ⟨g, 3, none⟩ p') g (d.push q) { L with p := p' } (N + 1) ∧ Row (w6.setCell ⟨g, 3, none⟩ p') X (bs x) 56 ∧
      Off F0 w (w6.setCell ⟨g, 3, none⟩ p') ∧ (∀ j, foot g { L with p := p' } j → F0 j ∨ w.heap.size ≤ j) := by
  have h36 : ∀ j, j < w3.heap.size → j ≠ L.b → L.p.ownBlock ≠ some j → w6.heap[j]? = w3.heap[j]? := fun j hj hb hp => by
    have hj4 : j < w4.heap.size := Nat.lt_of_lt_of_le hj g4.size
    rw [hg6.block j (by simp; omega) (fun e => hp e.symm), Below.heap_alloc _ _ _ (show j < w4.drew.heap.size from hj4)]
    exact g4.block j hj (fun e => hb (by cases e; rfl))
  have h37 : ∀ j, j < w3.heap.size → j ≠ L.b → L.p.ownBlock ≠ some j → j ≠ g → (w6.setCell ⟨g, 3, none⟩ p').heap[j]? = w3.heap[j]? := fun j hj hb hp hg => by
    rw [Below.heap_setCell _ _ _ _ hg]; exact h36 j hj hb hp
  have hbl : L.b < w3.heap.size := D3.fresh.lt
  have hal : L.a < w3.heap.size := D3.lt (Or.inr (Or.inl rfl))
  have row6 : Row w6 g (dcells d L) 95 := by
    have := D3.row
    unfold Row at this ⊢
    rw [h36 g D3.row.lt D3.bg.symm D3.pg]; exact this
  have r6Y : Row w6 Y cY 124 := by
    have := rY
    unfold Row at this ⊢
    rw [h36 Y rY.lt (fun e => hY (Or.inr (Or.inr (Or.inl e)))) (fun e => hY (Or.inr (Or.inr (Or.inr (Or.inl e)))))]; exact this
  have r7X : Row (w6.setCell ⟨g, 3, none⟩ p') X (bs x) 56 := by
    have := rX
    unfold Row at this ⊢
    rw [h37 X rX.lt (fun e => hX (Or.inr (Or.inr (Or.inl e)))) (fun e => hX (Or.inr (Or.inr (Or.inr (Or.inl e))))) (fun e => hX (Or.inl e))]; exact this
  have hs6 : w3.heap.size ≤ w6.heap.size := by
    have := hg6.size
    simp at this
    have := g4.size
    omega
  refine ⟨row_at row6 3 L.p rfl, row_frozen row6 3, r6Y, D3.push q hq p' hN (row_set row6 3 p') ?_ ?_ ?_ ?_, r7X, ?_, ?_⟩
  · refine m4.kept ?_
    rw [Below.heap_setCell _ _ _ _ D3.bg, hg6.block L.b (by simp; have := m4.lt; omega) (fun e => D3.pb e.symm), Below.heap_alloc _ _ _ (show L.b < w4.drew.heap.size from m4.lt)]; rfl
  · exact ownsRow_kept hp6 fun j e _ => Below.heap_setCell _ _ _ _ (fun e2 => by have := (hp6.lt j e).1; simp at e2; omega)
  · exact h37 L.a hal D3.ab D3.pa D3.ag
  · intro m e
    obtain ⟨h1, h2⟩ := D3.pf e
    exact h37 m h2 (fun e2 => D3.fb (e2 ▸ e)) h1 (fun e2 => D3.fg (e2 ▸ e))
  · refine ⟨?_, ?_, ?_, Nat.le_trans O3.size (by simpa [World.setCell] using hs6), fun j hj hn => ?_⟩
    · exact (hg6.os.trans g4.os).trans O3.os
    · exact (hg6.tape.trans g4.tape).trans O3.tape
    · exact (hg6.output.trans g4.output).trans O3.output
    · have nf : ¬ foot g L j := fun q => by
        rcases HF j q with q | q
        · exact hn q
        · omega
      rw [h37 j (Nat.lt_of_lt_of_le hj O3.size) (fun e => nf (Or.inr (Or.inr (Or.inl e)))) (fun e => nf (Or.inr (Or.inr (Or.inr (Or.inl e))))) (fun e => nf (Or.inl e))]
      exact O3.block j hj hn
  · rintro j (rfl | rfl | rfl | e | e)
    · exact HF _ (Or.inl rfl)
    · exact HF _ (Or.inr (Or.inl rfl))
    · exact HF _ (Or.inr (Or.inr (Or.inl rfl)))
    · rcases hl6 with q | q
      · exact HF _ (Or.inr (Or.inr (Or.inr (Or.inl (q ▸ e)))))
      · right
        have e' : p'.ownBlock = some j := e
        rw [q] at e'
        cases e'
        simp
        have := g4.size
        have := O3.size
        omega
    · exact HF _ (Or.inr (Or.inr (Or.inr (Or.inr e))))
end Go.Proofs.Ytgnedbagelhcbaa
namespace Go.Proofs.Ytgnedbagelhcbaa
open Go.ChangeShapes Go.WideShapes Go.ChangeAt Go.RowKit
set_option linter.unusedVariables false
set_option linter.unusedSimpArgs false
set_option maxRecDepth 20000
def Dsk.wrote (d : Dsk) (b : Int) (x : List Int) : Nat → Dsk
  | 0 => d
  | k + 1 => (d.wrote b x k).push (b, (k : Int), cut x k)
theorem wrote_n (d : Dsk) (b : Int) (x : List Int) : ∀ k, (d.wrote b x k).n = d.n
  | 0 => rfl
  | k + 1 => wrote_n d b x k
theorem cut_at (x : List Int) (hx : x.length = 256) (i : Nat) (hi : i < 4) (s : List Int) (hs : cut x i = s) (w : World) :
    Calls Try.prog 57 #[.agg (bs x), .int .i64 i] w fun e w' => e = .returned (.agg (bs s)) ∧ Below w.heap.size w w' := by
  subst hs; exact cut_in x hx i hi w
theorem cut_bytes (x : List Int) (hb : Bytes x) (i : Nat) : Bytes (cut x i) := fun y hy => hb y (List.mem_of_mem_drop (List.mem_of_mem_take hy))
theorem Row.type_ne {w : World} {g k : Nat} {c c' : Array Value} {t t' : TypeId} (h : Row w g c t) (h' : Row w k c' t') (ht : t ≠ t') : g ≠ k := by
  rintro rfl
  unfold Row at h h'
  rw [h] at h'
  cases h'; exact ht rfl
theorem DAt.notX {w : World} {g : Nat} {d : Dsk} {L : Loc} {N : Nat} (h : DAt w g d L N) {X : Nat} {x : List Int} (r : Row w X (bs x) 56) : ¬ foot g L X := by
  rintro (e | e | e | e | e)
  · exact r.type_ne h.row (by decide) e
  · obtain ⟨s, hs, _⟩ := h.sure
    exact r.map_ne hs e.symm
  · exact r.map_ne h.fresh e.symm
  · rcases h.pend.2 with ⟨q, _⟩ | ⟨rr, cap, cur, q, _, hr, _⟩
    · rw [q] at e; cases e
    · rw [q] at e
      simp [Value.ownBlock] at e
      subst e
      unfold Row at r
      rw [r] at hr; cases hr
  · rcases h.fails with ⟨q, _⟩ | ⟨m, n, D, q, ⟨es, clock, hb, _⟩, _⟩
    · rw [q] at e; cases e
    · rw [q] at e; cases e
      unfold Row at r
      rw [r] at hb; cases hb
set_option maxHeartbeats 2000000 in
theorem write_in {w : World} {g : Nat} {d0 : Dsk} {L0 : Loc} {N : Nat} (h0 : DAt w g d0 L0 N) (ho : d0.ops < 9223372036854775806) (b : Int) (x : List Int) (hx : x.length = 256) (xb : Bytes x) (hN : N + 4 < 1000000000000) (ha : (ask d0 b).1 = 0) :
    Calls Try.prog 33 #[.pointer (some ⟨g, 0, none⟩), .int .i64 b, .agg (bs x)] w fun e w' => e = .returned (.int .i64 0) ∧ ∃ L', DAt w' g ((ask d0 b).2.wrote b x 4) L' (N + 4) ∧ Off (foot g L0) w w' ∧ ∀ j, foot g L' j → foot g L0 j ∨ w.heap.size ≤ j := by
  obtain ⟨b0, b1, b2⟩ := ask_in ha
  have hn := h0.small
  have wb : Wf b := wf_of (by omega) (by omega)
  have hask := ask_any (h0.alloc (.cells (bs x) 56)) ho b
  rw [ha] at hask
  have hn1 : (ask d0 b).2.n = d0.n := by rw [b2, count_n]
  generalize (ask d0 b).2 = d1 at hask hn1 ⊢
  clear ha b2
  have aX : Row (w.alloc (.cells (bs x) 56)) w.heap.size (bs x) 56 := Row.new _ _ _
  have gw : g < w.heap.size := h0.row.lt
  have HW : Hid (∀ k : Nat, k < 4 → Wf (k : Int)) := fun k hk => wf_of (by omega) (by omega)
  obtain ⟨X, HX⟩ : ∃ X, Hid (w.heap.size = X) := ⟨_, rfl⟩
  have oa : Off (foot g L0) w (w.alloc (.cells (bs x) 56)) := Off.of_below ((Below.refl _ _).alloc (Nat.le_refl _) _)
  have HPOST : Hid (∀ w', (∃ L', DAt w' g (d1.wrote b x 4) L' (N + 4) ∧ Off (foot g L0) w w' ∧ ∀ j, foot g L' j → foot g L0 j ∨ w.heap.size ≤ j) → ∃ L', DAt w' g (d1.wrote b x 4) L' (N + 4) ∧ Off (foot g L0) w w' ∧ ∀ j, foot g L' j → foot g L0 j ∨ w.heap.size ≤ j) := fun _ h => h
  generalize hPP : (fun w' => ∃ L', DAt w' g (d1.wrote b x 4) L' (N + 4) ∧ Off (foot g L0) w w' ∧ ∀ j, foot g L' j → foot g L0 j ∨ w.heap.size ≤ j) = PP
  have HPP : Hid (∀ w', (∃ L', DAt w' g (d1.wrote b x 4) L' (N + 4) ∧ Off (foot g L0) w w' ∧ ∀ j, foot g L' j → foot g L0 j ∨ w.heap.size ≤ j) → PP w') := fun w' h => by rw [← hPP]; exact h
  show Calls Try.prog 33 _ w fun e w' => e = .returned (.int .i64 0) ∧ (fun w' => ∃ L', DAt w' g (d1.wrote b x 4) L' (N + 4) ∧ Off (foot g L0) w w' ∧ ∀ j, foot g L' j → foot g L0 j ∨ w.heap.size ≤ j) w'
  rw [hPP]
  clear hPP HPOST
  go_enter Try.func33, Try.ntmps33
  go_wp2_with (go_at_call 56; refine hask.mono ?_; rintro e w1 ⟨rfl, D1, o1⟩)
  have rX1 : Row w1 X (bs x) 56 := by rw [← HX.out]; exact aX.off o1 (by omega)
  have O1 : Off (foot g L0) w w1 := oa.trans o1 (fun j hj => Or.inl (Or.inl hj))
  go_loopw [16] (fun c wr => ∃ (k : Nat) (d : Dsk) (L : Loc), c = .int .i64 k ∧ k ≤ 4 ∧ Hid (d = d1.wrote b x k) ∧ Row wr X (bs x) 56 ∧ DAt wr g d L (N + k) ∧ Off (foot g L0) w wr ∧ Hid (∀ j, foot g L j → foot g L0 j ∨ w.heap.size ≤ j)) (fun c _ => 4 - (intOf c).toNat)
  case atStart => exact ⟨0, d1, L0, rfl, by omega, rfl, rX1, D1, O1, fun j hj => Or.inl hj⟩
  case round =>
    clear rX1 O1 D1 o1 oa aX
    obtain ⟨k, d, L, rfl, hk4, HD, rX, D, O, HF⟩ := hrel
    by_cases hk : k < 4
    · have wk := HW.out k hk
      obtain ⟨s, HS⟩ : ∃ s, Hid (cut x k = s) := ⟨_, rfl⟩
      have hsl : s.length = 64 := by rw [← HS.out]; exact cut_length x k hx hk
      have hsec : Sec s := ⟨hsl, by rw [← HS.out]; exact cut_bytes x xb k⟩
      have HD' : Hid (d.push (b, (k : Int), s) = d1.wrote b x (k + 1)) := by show _ = _; rw [HD.out, ← HS.out]; rfl
      have hdn : d.n = d0.n := by rw [HD.out, wrote_n, hn1]
      have hq5 : 0 ≤ b ∧ b < (d.n : Int) ∧ 0 ≤ (k : Int) ∧ (k : Int) < 4 ∧ Sec s := ⟨b0, by rw [hdn]; exact b1, by omega, by omega, hsec⟩
      have HQ5 : Hid _ := hq5
      clear hq5 hsec
      have hz81 := zero124
      have hb81 := built124 b (k : Int) s hsl
      go_wp2_with (first
        | (refine load_row rfl 56 (.tmp 5) rfl X (by rw [← HX.out]; rfl) 56 (bs x) rX 256 5 Try.underlying56 size56 (by rw [bs_size, hx]) ?_)
        | (go_at_call 57; refine (cut_at x hx k hk s HS.out _).mono ?_; rintro e wc ⟨rfl, hcb⟩
           have y0 : Row (wc.alloc (.cells (wcells 0 0 (zs 64)) 124)) wc.heap.size (wcells 0 0 (zs 64)) 124 := Row.new _ _ _)
        | (refine build_two rfl 124 (.tmp 21) (.tmp 24) rfl _ _ rfl rfl (wcells b k s) hb81 ?_)
        | (refine store_cells rfl 124 (.tmp 9) (.tmp 25) rfl wc.heap.size (wcells b k s) rfl rfl 124 _ y0 66 size124 (wcells_size _ _ _ (zs_length 64)) (wcells_size _ _ _ hsl) (wcells_one _ _ _) ?_))
      have hYf : ¬ foot g L wc.heap.size := fun q => by have := D.lt q; have := hcb.size; omega
      have rY3 : Row ((wc.alloc (.cells (wcells 0 0 (zs 64)) 124)).setRow wc.heap.size (wcells b k s)) wc.heap.size (wcells b k s) 124 := y0.set _
      have D3 : DAt ((wc.alloc (.cells (wcells 0 0 (zs 64)) 124)).setRow wc.heap.size (wcells b k s)) g d L (N + k) := ((D.below hcb).alloc _).setRow _ _ hYf
      have rX3 : Row ((wc.alloc (.cells (wcells 0 0 (zs 64)) 124)).setRow wc.heap.size (wcells b k s)) X (bs x) 56 := ((rX.below hcb rX.lt).alloc _).other (by have := rX.lt; have := hcb.size; omega) _
      have O3 : Off (foot g L0) w ((wc.alloc (.cells (wcells 0 0 (zs 64)) 124)).setRow wc.heap.size (wcells b k s)) :=
        ((O.trans (Off.of_below (F := fun _ => False) hcb) (fun _ h => h.elim)).trans (Off.of_below (F := fun _ => False) ((Below.refl _ _).alloc (Nat.le_refl _) _)) (fun _ h => h.elim)).trans (Off.of_setRow (F := (· = wc.heap.size)) _ _ _ rfl) (fun j hj => Or.inr (by have := O.size; have := hcb.size; omega))
      clear y0
      generalize (wc.alloc (.cells (wcells 0 0 (zs 64)) 124)).setRow wc.heap.size (wcells b k s) = w3 at rY3 D3 rX3 O3 ⊢
      generalize wc.heap.size = Y at hYf rY3 ⊢
      clear hcb rX D O hb81 hz81
      have hXf : ¬ foot g L X := D3.notX rX3
      have hYg : g ≠ Y := fun q => hYf (Or.inl q.symm)
      have hYg' : Y ≠ g := hYg.symm
      have hpl : d.pend.length < 1000000000000 := by obtain ⟨_, _, h2⟩ := D3.sure; omega
      have hNk : N + k + 1 < 1000000000000 := by omega
      obtain ⟨w4, hrun4, m4, g4, z4⟩ := D3.drew.fresh.store (by unfold maxLen; omega) wb wk HQ5.out.2.2.2.2
      have g4' : w3.grownBy w4 (some L.b) := ⟨g4.os, g4.tape, g4.output, g4.size, g4.block⟩
      clear z4 g4
      have row4 : Row w4 g (dcells d L) 95 := by
        have := D3.row
        unfold Row at this ⊢
        rw [g4'.block g D3.row.lt (fun q => D3.bg (by cases q; rfl))]; exact this
      have y4 : Row w4 Y (wcells b k s) 124 := by
        have := rY3
        unfold Row at this ⊢
        rw [g4'.block Y rY3.lt (fun q => hYf (Or.inr (Or.inr (Or.inl (by cases q; rfl)))))]; exact this
      have c34 := row_at (row_drew row4) 3 L.p rfl
      have c35 := row_at (row4.alloc (.cells (wcells b k s) 124)) 3 L.p rfl
      have p4 : w4.drew.ownsRow (g + 1) 124 66 L.p d.pend.length (pcells d.pend) := ownsRow_kept D3.pend fun j e hl => g4'.block j hl (fun q => D3.pb (by cases q; exact e))
      have p5 := p4.alloc (.cells (wcells b k s) 124)
      have z5 : Row (w4.drew.alloc (.cells (wcells b k s) 124)) w4.drew.heap.size (pcell (b, (k : Int), s)).toArray 124 := Row.new _ _ _
      have hg5 : g + 1 ≤ (w4.drew.alloc (.cells (wcells b k s) 124)).heap.size := by have := row4.lt; simp; omega
      have hq5 := HQ5.out
      unfold pk at hrun4
      refine wp_region_held_drew (S := fun w' => Row w' g (dcells d L) 95 ∧ Row w' Y (wcells b k s) 124) (by kernel_rfl) ⟨row_drew D3.row, row_drew rY3⟩ fun hS => ?_
      refine wpAnyH_take (i := 0) (v := .pointer (some ⟨g, 0, none⟩)) rfl (by kernel_rfl) (by kernel_rfl) (by kernel_rfl) (fun _ _ _ h => h) (Or.inl ⟨by rfl, fun w _ => by rfl⟩) hS ?_
      try simp only [Act.put, nz0, nz1, nz2, nz3, nz4, nz5]
      refine wpAnyH_take (i := 1) (v := .pointer (some ⟨g, 0, none⟩)) rfl (by kernel_rfl) (by kernel_rfl) (by kernel_rfl) (fun _ _ _ h => h) (Or.inl ⟨by rfl, fun w _ => by go_simp⟩) hS ?_
      try simp only [Act.put, nz0, nz1, nz2, nz3, nz4, nz5]
      refine wpAnyH_take (i := 2) (v := .pointer (some ⟨g, 2, none⟩)) rfl (by kernel_rfl) (by kernel_rfl) (by kernel_rfl) (fun _ _ _ h => h) (Or.inl ⟨by rfl, fun w _ => by go_simp⟩) hS ?_
      try simp only [Act.put, nz0, nz1, nz2, nz3, nz4, nz5]
      refine wpAnyH_take (i := 3) (v := .map (some L.b)) rfl (by kernel_rfl) (by kernel_rfl) (by kernel_rfl) (fun _ _ _ h => h) (Or.inl ⟨by rfl, fun w h => by have c := (row_at h.1 2 (.map (some L.b)) rfl); go_simp⟩) hS ?_
      try simp only [Act.put, nz0, nz1, nz2, nz3, nz4, nz5]
      refine wpAnyH_take (i := 4) (v := .pointer (some ⟨Y, 0, none⟩)) rfl (by kernel_rfl) (by kernel_rfl) (by kernel_rfl) (fun _ _ _ h => h) (Or.inl ⟨by rfl, fun w _ => by go_simp⟩) hS ?_
      try simp only [Act.put, nz0, nz1, nz2, nz3, nz4, nz5]
      refine wpAnyH_take (i := 5) (v := .agg #[.int .i64 b, .int .i64 k]) rfl (by kernel_rfl) (by kernel_rfl) (by kernel_rfl) (fun _ _ _ h => h) (yieldsIf_load_mid (by rfl) 117 (.tmp 30) rfl Y 0 rfl [.int .i64 b, .int .i64 k] _ (fun w h => range_key h.2) Try.underlying117 rfl size117) hS ?_
      try simp only [Act.put, nz0, nz1, nz2, nz3, nz4, nz5]
      refine wpAnyH_take (i := 6) (v := .pointer (some ⟨Y, 2, none⟩)) rfl (by kernel_rfl) (by kernel_rfl) (by kernel_rfl) (fun _ _ _ h => h) (Or.inl ⟨by rfl, fun w _ => by go_simp⟩) hS ?_
      try simp only [Act.put, nz0, nz1, nz2, nz3, nz4, nz5]
      refine wpAnyH_take (i := 7) (v := .agg (bs s)) rfl (by kernel_rfl) (by kernel_rfl) (by kernel_rfl) (fun _ _ _ h => h) (yieldsIf_load_mid (by rfl) 114 (.tmp 32) rfl Y 2 rfl (s.map (Value.int .u8)) _ (fun w h => range_sec h.2) Try.underlying114 rfl (by rw [List.length_map, hsl]; exact size114)) hS ?_
      try simp only [Act.put, nz0, nz1, nz2, nz3, nz4, nz5]
      refine wpAnyH_ready (rs := [8]) (by kernel_rfl) (by simp) ?_
      refine AllReadyH.cons rfl (fun K hK => step_of rfl (wp_update 91 (.tmp 29) (.tmp 31) (.tmp 33) rfl _ _ _ rfl rfl rfl w4 hrun4 (hK.out _ _ ⟨row4, y4⟩ fun hS => ?_))) AllReadyH.nil
      try simp only [Act.put, nz0, nz1, nz2, nz3, nz4, nz5]
      refine wpAnyH_done (by kernel_rfl) ?_ _
      go_wp2
      refine wp_region_held_drew (S := fun w' => Row w' Y (wcells b k s) 124) (by kernel_rfl) (row_drew y4) fun hS => ?_
      refine wpAnyH_take (i := 0) (v := .pointer (some ⟨g, 0, none⟩)) rfl (by kernel_rfl) (by kernel_rfl) (by kernel_rfl) (fun _ _ _ h => h) (Or.inl ⟨by rfl, fun w _ => by rfl⟩) hS ?_
      try simp only [Act.put, nz0, nz1, nz2, nz3, nz4, nz5]
      refine wpAnyH_take (i := 1) (v := .pointer (some ⟨g, 0, none⟩)) rfl (by kernel_rfl) (by kernel_rfl) (by kernel_rfl) (fun _ _ _ h => h) (Or.inl ⟨by rfl, fun w _ => by rfl⟩) hS ?_
      try simp only [Act.put, nz0, nz1, nz2, nz3, nz4, nz5]
      refine wpAnyH_take (i := 2) (v := .pointer (some ⟨g, 0, none⟩)) rfl (by kernel_rfl) (by kernel_rfl) (by kernel_rfl) (fun _ _ _ h => h) (Or.inl ⟨by rfl, fun w _ => by go_simp⟩) hS ?_
      try simp only [Act.put, nz0, nz1, nz2, nz3, nz4, nz5]
      refine wpAnyH_take (i := 3) (v := .pointer (some ⟨g, 3, none⟩)) rfl (by kernel_rfl) (by kernel_rfl) (by kernel_rfl) (fun _ _ _ h => h) (Or.inl ⟨by rfl, fun w _ => by go_simp⟩) hS ?_
      try simp only [Act.put, nz0, nz1, nz2, nz3, nz4, nz5]
      refine wpAnyH_take (i := 5) (v := .agg (wcells b k s)) rfl (by kernel_rfl) (by kernel_rfl) (by kernel_rfl) (fun _ _ _ h => h) (yieldsIf_load_mid (by rfl) 124 (.tmp 9) rfl Y 0 rfl (pcell (b, (k : Int), s)) _ (fun w h => range_all h) Try.underlying124 rfl (by rw [pcell_length _ _ _ hsl]; exact size124)) hS ?_
      try simp only [Act.put, nz0, nz1, nz2, nz3, nz4, nz5]
      refine wpAnyH_ready (rs := [4, 6]) (by kernel_rfl) (by simp) ?_
      refine AllReadyH.cons rfl (fun K hK => ?_) (AllReadyH.cons rfl (fun K hK => ?_) AllReadyH.nil)
      · go_simp
        refine hK.out _ _ hS fun hS => ?_
        try simp only [Act.put, nz0, nz1, nz2, nz3, nz4, nz5]
        refine wpAnyH_ready (rs := [6]) (by kernel_rfl) (by simp) ?_
        refine AllReadyH.cons rfl (fun K hK => step_of rfl (wp_slice_one (.tmp 39) rfl b k s hsl rfl (hK.out _ _ (hS.alloc _) fun hS => ?_))) AllReadyH.nil
        try simp only [Act.put, nz0, nz1, nz2, nz3, nz4, nz5]
        refine wpAnyH_ready (rs := [7]) (by kernel_rfl) (by simp) ?_
        refine AllReadyH.cons rfl (fun K hK => step_of rfl (wp_append_write (.tmp 38) (.tmp 40) rfl g L.p d.pend rfl p5 _ (b, (k : Int), s) rfl z5 hsl hpl hg5 ?_)) AllReadyH.nil
        intro r n6 cap6 w6 hp6 hg6 hl6
        obtain ⟨c6, f6, y6, D7, X7, O7, F7⟩ := write_after D3 (b, (k : Int), s) hq5 hNk g4' m4 _ hp6 hg6 hl6 X Y x _ rX3 rY3 hYf hXf O3 HF.out
        refine hK.out _ _ y6 fun hS => ?_
        try simp only [Act.put, nz0, nz1, nz2, nz3, nz4, nz5]
        refine wpAnyH_take (i := 8) (v := .pointer (some ⟨g, 0, none⟩)) rfl (by kernel_rfl) (by kernel_rfl) (by kernel_rfl) (fun _ _ _ h => h) (Or.inl ⟨by rfl, fun w _ => by go_simp⟩) hS ?_
        try simp only [Act.put, nz0, nz1, nz2, nz3, nz4, nz5]
        refine wpAnyH_take (i := 9) (v := .pointer (some ⟨g, 3, none⟩)) rfl (by kernel_rfl) (by kernel_rfl) (by kernel_rfl) (fun _ _ _ h => h) (Or.inl ⟨by rfl, fun w _ => by go_simp⟩) hS ?_
        try simp only [Act.put, nz0, nz1, nz2, nz3, nz4, nz5]
        refine wpAnyH_ready (rs := [10]) (by kernel_rfl) (by simp) ?_
        refine AllReadyH.cons rfl (fun K hK => ?_) AllReadyH.nil
        go_simp
        refine hK.out _ _ (row_setCell_other y6 hYg' _ _) fun hS => ?_
        try simp only [Act.put, nz0, nz1, nz2, nz3, nz4, nz5]
        refine wpAnyH_done (by kernel_rfl) ?_ _
        clear c6 f6
        go_wp2
        go_roundw
        case rel => exact ⟨k + 1, d.push (b, (k : Int), s), _, by go_num, by omega, HD', X7, D7, O7, F7⟩
        case measure => simp [intOf]; omega
      · refine step_of rfl (wp_slice_one (.tmp 39) rfl b k s hsl rfl (hK.out _ _ (hS.alloc _) fun hS => ?_))
        try simp only [Act.put, nz0, nz1, nz2, nz3, nz4, nz5]
        refine wpAnyH_ready (rs := [4]) (by kernel_rfl) (by simp) ?_
        refine AllReadyH.cons rfl (fun K hK => ?_) AllReadyH.nil
        go_simp
        refine hK.out _ _ hS fun hS => ?_
        try simp only [Act.put, nz0, nz1, nz2, nz3, nz4, nz5]
        refine wpAnyH_ready (rs := [7]) (by kernel_rfl) (by simp) ?_
        refine AllReadyH.cons rfl (fun K hK => step_of rfl (wp_append_write (.tmp 38) (.tmp 40) rfl g L.p d.pend rfl p5 _ (b, (k : Int), s) rfl z5 hsl hpl hg5 ?_)) AllReadyH.nil
        intro r n6 cap6 w6 hp6 hg6 hl6
        obtain ⟨c6, f6, y6, D7, X7, O7, F7⟩ := write_after D3 (b, (k : Int), s) hq5 hNk g4' m4 _ hp6 hg6 hl6 X Y x _ rX3 rY3 hYf hXf O3 HF.out
        refine hK.out _ _ y6 fun hS => ?_
        try simp only [Act.put, nz0, nz1, nz2, nz3, nz4, nz5]
        refine wpAnyH_take (i := 8) (v := .pointer (some ⟨g, 0, none⟩)) rfl (by kernel_rfl) (by kernel_rfl) (by kernel_rfl) (fun _ _ _ h => h) (Or.inl ⟨by rfl, fun w _ => by go_simp⟩) hS ?_
        try simp only [Act.put, nz0, nz1, nz2, nz3, nz4, nz5]
        refine wpAnyH_take (i := 9) (v := .pointer (some ⟨g, 3, none⟩)) rfl (by kernel_rfl) (by kernel_rfl) (by kernel_rfl) (fun _ _ _ h => h) (Or.inl ⟨by rfl, fun w _ => by go_simp⟩) hS ?_
        try simp only [Act.put, nz0, nz1, nz2, nz3, nz4, nz5]
        refine wpAnyH_ready (rs := [10]) (by kernel_rfl) (by simp) ?_
        refine AllReadyH.cons rfl (fun K hK => ?_) AllReadyH.nil
        go_simp
        refine hK.out _ _ (row_setCell_other y6 hYg' _ _) fun hS => ?_
        try simp only [Act.put, nz0, nz1, nz2, nz3, nz4, nz5]
        refine wpAnyH_done (by kernel_rfl) ?_ _
        clear c6 f6
        go_wp2
        go_roundw
        case rel => exact ⟨k + 1, d.push (b, (k : Int), s), _, by go_num, by omega, HD', X7, D7, O7, F7⟩
        case measure => simp [intOf]; omega
    · have e4 : k = 4 := by omega
      subst e4
      have hp := HPP.out wr ⟨L, by rw [← HD.out]; exact D, O, HF.out⟩
      go_wp2
      go_ret
      exact ⟨rfl, hp⟩
end Go.Proofs.Ytgnedbagelhcbaa
namespace Go.Proofs.Ytgnedbagelhcbaa
open Go.ChangeShapes Go.WideShapes Go.ChangeAt Go.RowKit
set_option linter.unusedVariables false
set_option linter.unusedSimpArgs false
set_option maxRecDepth 20000
theorem write_err (v : Value) (b E : Int) (hE : ¬ E = 0) (x : List Int) (w : World) (F : Nat → Prop) (T : World → Prop)
    (hh : ∀ wa, Below w.heap.size w wa → Calls Try.prog 56 #[v, .int .i64 b] wa fun e w' => e = .returned (.int .i64 E) ∧ Off F wa w' ∧ T w') :
    Calls Try.prog 33 #[v, .int .i64 b, .agg (bs x)] w fun e w' => e = .returned (.int .i64 E) ∧ Off F w w' ∧ T w' := by
  have ab : Below w.heap.size w (w.alloc (.cells (bs x) 56)) := (Below.refl _ _).alloc (Nat.le_refl _) _
  go_enter Try.func33, Try.ntmps33
  go_wp2_with (go_at_call 56; refine (hh _ ab).mono ?_; rintro e w' ⟨rfl, ho, ht⟩)
  go_ret
  exact ⟨rfl, (Off.of_below (F := F) ab).trans ho (fun j hj => Or.inl hj), ht⟩
def writ (d : Dsk) (b : Int) (x : List Int) : Int × Dsk := if (ask d b).1 = 0 then (0, (ask d b).2.wrote b x 4) else ask d b
theorem write_any {w : World} {g : Nat} {d : Dsk} {L : Loc} {N : Nat} (h : DAt w g d L N) (ho : d.ops < 9223372036854775806) (b : Int) (x : List Int) (hx : x.length = 256) (xb : Bytes x) (hN : N + 4 < 1000000000000) :
    Calls Try.prog 33 #[.pointer (some ⟨g, 0, none⟩), .int .i64 b, .agg (bs x)] w fun e w' => e = .returned (.int .i64 (writ d b x).1) ∧ ∃ L', DAt w' g (writ d b x).2 L' (N + 4) ∧ Off (foot g L) w w' ∧ ∀ j, foot g L' j → foot g L j ∨ w.heap.size ≤ j := by
  by_cases e0 : (ask d b).1 = 0
  · have e : writ d b x = (0, (ask d b).2.wrote b x 4) := by unfold writ; rw [if_pos e0]
    rw [e]
    exact write_in h ho b x hx xb hN e0
  · have e : writ d b x = ask d b := by unfold writ; rw [if_neg e0]
    rw [e]
    refine (write_err _ b (ask d b).1 e0 x w (foot g L) (fun w' => DAt w' g (ask d b).2 L N) fun wa hb => ?_).mono ?_
    · refine (ask_any (h.below hb) ho b).mono ?_
      rintro e w' ⟨rfl, h1, h2⟩
      exact ⟨rfl, h2.mono (fun j hj => Or.inl (Or.inl hj)), h1⟩
    · rintro e w' ⟨rfl, h1, h2⟩
      refine ⟨rfl, L, { h2 with sure := ?_, big := hN }, h1, fun j hj => Or.inl hj⟩
      obtain ⟨s, hs, hle⟩ := h2.sure
      exact ⟨s, hs, by omega⟩
theorem wrote_seen (d : Dsk) (b : Int) (x : List Int) (hx : x.length = 256) : (d.wrote b x 4).seen b = x := by
  unfold Dsk.seen Secs.block
  have e : (d.wrote b x 4).sure = d.sure ∧ (d.wrote b x 4).pend = d.pend ++ [(b, 0, cut x 0), (b, 1, cut x 1), (b, 2, cut x 2), (b, 3, cut x 3)] := by
    constructor
    · rfl
    · simp [Dsk.wrote, Dsk.push]
  rw [e.1, e.2, over_append]
  generalize over d.sure d.pend = f
  have h2 : ∀ i : Nat, i < 4 → (over f [(b, 0, cut x 0), (b, 1, cut x 1), (b, 2, cut x 2), (b, 3, cut x 3)]).get b (i : Int) = cut x i := by
    intro i hi
    have : i = 0 ∨ i = 1 ∨ i = 2 ∨ i = 3 := by omega
    rcases this with rfl | rfl | rfl | rfl <;> simp [over, Secs.put, Secs.get]
  rw [blk_congr _ (cut x) (fun i hi => by rw [h2 i hi]; exact cut_length x i hx hi) h2]
  exact blk_cut x hx
theorem wrote_ops (d : Dsk) (b : Int) (x : List Int) : (d.wrote b x 4).ops = d.ops ∧ (d.wrote b x 4).down = d.down ∧ (d.wrote b x 4).n = d.n ∧ (d.wrote b x 4).fuse = d.fuse ∧ (d.wrote b x 4).fails = d.fails := ⟨rfl, rfl, rfl, rfl, rfl⟩
end Go.Proofs.Ytgnedbagelhcbaa
namespace Go.Proofs.Ytgnedbagelhcbaa
open Go.ChangeShapes Go.WideShapes Go.ChangeAt Go.RowKit
set_option linter.unusedVariables false
set_option linter.unusedSimpArgs false
set_option maxRecDepth 20000
end Go.Proofs.Ytgnedbagelhcbaa
