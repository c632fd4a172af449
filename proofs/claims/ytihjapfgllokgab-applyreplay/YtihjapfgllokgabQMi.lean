/-
  Records of undo pages as values: their cells, lists of them in slices, and when two are alike. Proved here: how many bytes an undo page takes (page.Size), how many records are live (slot.Live).
-/
import Derived.Test.YtihjapfgllokgabArr
import Derived.Laws.AppendOwnNone
import Derived.Maps.AppendAt
import Derived.Deep.MidRow
import Derived.Deep.CutBlock
import Derived.Great.BuildSlice
namespace Go.Proofs.Ytihjapfgllokgab
open Go.ChangeShapes Go.WideShapes Go.ChangeAt Go.RowKit
set_option linter.unusedVariables false
set_option linter.unusedSimpArgs false
set_option maxRecDepth 20000

/-- A record. -/
structure O where
  live : Bool
  page : Int
  ts : Int
  np : Int
  ns : Int
  delta : ByteArray
def O.zero : O := ⟨false, 0, 0, 0, 0, ByteArray.empty⟩
def O.cells (o : O) : List Value := [.bool o.live, .int .u16 o.page, .int .u32 o.ts, .int .u16 o.np, .int .u8 o.ns, .string o.delta]
def O.arr (o : O) : Array Value := #[.bool o.live, .int .u16 o.page, .int .u32 o.ts, .int .u16 o.np, .int .u8 o.ns, .string o.delta]
theorem O.arr_toList (o : O) : o.arr.toList = o.cells := rfl
theorem O.cells_toArray (o : O) : o.cells.toArray = o.arr := rfl
theorem O.cells_length (o : O) : o.cells.length = 6 := rfl
def flat (os : List O) : List Value := os.flatMap O.cells
theorem flat_length : ∀ os : List O, (flat os).length = os.length * 6
  | [] => rfl
  | o :: r => by
    have := flat_length r
    show (o.cells ++ flat r).length = _
    rw [List.length_append, this, O.cells_length]; simp; omega
theorem flat_at : ∀ (os : List O) (i j : Nat) (o : O), os[i]? = some o → j < 6 → (flat os)[i * 6 + j]? = o.cells[j]?
  | [], i, j, o, h, _ => by simp at h
  | p :: r, 0, j, o, h, hj => by
    simp at h; subst h
    show (p.cells ++ flat r)[0 * 6 + j]? = _
    rw [Nat.zero_mul, Nat.zero_add, List.getElem?_append_left (by rw [O.cells_length]; exact hj)]
  | p :: r, i + 1, j, o, h, hj => by
    simp at h
    show (p.cells ++ flat r)[(i + 1) * 6 + j]? = _
    rw [List.getElem?_append_right (by rw [O.cells_length]; omega), O.cells_length, show (i + 1) * 6 + j - 6 = i * 6 + j by omega]
    exact flat_at r i j o h hj
theorem flat_one : ∀ os : List O, ∀ u ∈ flat os, u.oneCell' = true := by
  intro os u hu
  obtain ⟨o, _, h⟩ := List.mem_flatMap.1 hu
  simp [O.cells] at h
  rcases h with rfl | rfl | rfl | rfl | rfl | rfl <;> rfl
theorem flat_append (a b : List O) : flat (a ++ b) = flat a ++ flat b := by simp [flat]
/-- A slice that holds these records. -/
def Olds (w : World) (v : Value) (os : List O) : Prop :=
  (v = .slice none 0 0 ∧ os = []) ∨ ∃ a cap, v = .slice (some a) os.length cap ∧ ∀ j u, (flat os)[j]? = some u → w.cell? (a.add j) = some u
theorem cell_keep {w w' : World} {p : Addr} {u : Value} (h : w.cell? p = some u) (hb : Below w.heap.size w w') : w'.cell? p = some u := by
  rw [← h]
  refine World.cell?_of_block (hb.block _ ?_)
  unfold World.cell? at h
  by_cases q : p.block < w.heap.size
  · exact q
  · rw [Array.getElem?_eq_none (by omega)] at h; cases h
theorem Olds.keep {w w' : World} {v : Value} {os : List O} (h : Olds w v os) (hb : Below w.heap.size w w') : Olds w' v os := by
  rcases h with h | ⟨a, cap, rfl, h⟩
  · exact Or.inl h
  · exact Or.inr ⟨a, cap, rfl, fun j u hj => cell_keep (h j u hj) hb⟩
theorem add_add (a : Addr) (m j : Nat) : (a.add m).add j = a.add (m + j) := by
  unfold Addr.add
  by_cases h1 : m = 0
  · subst h1; simp
  · by_cases h2 : j = 0
    · subst h2; simp [h1]
    · rw [if_neg h2, if_neg h1, if_neg (by omega)]; simp; omega
theorem Olds.open {w : World} {v : Value} {os : List O} (h : Olds w v os) : ∃ oa cap, v = .slice oa os.length cap ∧ ∀ i, i < os.length → ∃ (a : Addr) (o : O), oa = some a ∧ os[i]? = some o ∧ ∀ j u, o.cells[j]? = some u → w.cell? ((a.add (i * 6)).add j) = some u := by
  rcases h with ⟨rfl, rfl⟩ | ⟨a, cap, rfl, h⟩
  · exact ⟨none, 0, rfl, fun i hi => absurd hi (by simp)⟩
  · refine ⟨some a, cap, rfl, fun i hi => ⟨a, os[i], rfl, by simp [hi], fun j u hj => ?_⟩⟩
    rw [add_add]
    have hj6 : j < 6 := by have := (List.getElem?_eq_some_iff.1 hj).1; simpa [O.cells] using this
    exact h _ u (by rw [flat_at os i j os[i] (by simp [hi]) hj6]; exact hj)
/-- .. in a block from 'base' on, that is its own. -/
def Own (w : World) (base : Nat) (v : Value) (os : List O) : Prop := w.ownsRow base 35 6 v os.length (flat os)
theorem Own.olds {w : World} {base : Nat} {v : Value} {os : List O} (h : Own w base v os) : Olds w v os := by
  have hc := fun g hg => World.ownsRow.cells h (g := g) hg
  obtain ⟨h1, h2⟩ := h
  rcases h2 with ⟨rfl, h2⟩ | ⟨g, cap, cur, rfl, hb, hg, _⟩
  · exact Or.inl ⟨rfl, List.eq_nil_of_length_eq_zero h2⟩
  · exact Or.inr ⟨⟨g, 0, none⟩, cap, rfl, hc g rfl⟩
theorem Own.keep {w w' : World} {base : Nat} {v : Value} {os : List O} (h : Own w base v os) (hb : Below w.heap.size w w') : Own w' base v os := by
  have hl := World.ownsRow.lt h
  obtain ⟨h1, h2⟩ := h
  refine ⟨h1, ?_⟩
  rcases h2 with h2 | ⟨g, cap, cur, rfl, hb', hc, rest⟩
  · exact Or.inl h2
  · have := hl g (by simp [Value.ownBlock])
    exact Or.inr ⟨g, cap, cur, rfl, hb', (hb.block g this.2).trans hc, rest⟩
theorem info35 : (Try.prog.info? 35).map (fun i => (i.zero, i.size, i.bytes)) = some (some (.agg O.zero.arr), 6, 32) := by kernel_rfl
theorem info_parts {P : Program} {t : TypeId} {z : Option Value} {n b : Nat} (h : (P.info? t).map (fun i => (i.zero, i.size, i.bytes)) = some (z, n, b)) : ∃ i, P.info? t = some i ∧ i.zero = z ∧ i.size = n ∧ i.bytes = b := by
  obtain ⟨i, hi, e⟩ := Option.map_eq_some_iff.1 h
  simp only [Prod.mk.injEq] at e
  exact ⟨i, hi, e.1, e.2.1, e.2.2⟩
theorem size35 : (Try.prog.info? 35).map (·.size) = some 6 := by kernel_rfl
theorem size64 : (Try.prog.info? 64).map (·.size) = some 2 := by kernel_rfl
theorem zero35 (w : World) : (zeroValue 35).run Try.prog w = .ok (.agg #[.bool false, .int .u16 0, .int .u32 0, .int .u16 0, .int .u8 0, .string ByteArray.empty]) w := (zero_of_info (P := Try.prog) (t := 35) (v := .agg #[.bool false, .int .u16 0, .int .u32 0, .int .u16 0, .int .u8 0, .string ByteArray.empty]) (n := 6) (by kernel_rfl)).1 w
theorem zero64 (w : World) : (zeroValue 64).run Try.prog w = .ok (.agg #[.int .u64 0, .slice none 0 0]) w := (zero_of_info (P := Try.prog) (t := 64) (v := .agg #[.int .u64 0, .slice none 0 0]) (n := 2) (by kernel_rfl)).1 w
theorem built35 : (Try.prog.built 35 []) = some #[.bool false, .int .u16 0, .int .u32 0, .int .u16 0, .int .u8 0, .string ByteArray.empty] := by kernel_rfl
theorem built64 : (Try.prog.built 64 []) = some #[.int .u64 0, .slice none 0 0] := by kernel_rfl
theorem built33 : (Try.prog.built 33 []) = some #[.int .u16 0, .int .u8 0] := by kernel_rfl
instance : DecidableEq O := fun a b => by
  cases a; cases b
  simp only [O.mk.injEq]
  exact inferInstance
theorem bytes_inj {a b : ByteArray} (h : a.toList = b.toList) : a = b := by
  rw [ByteArray.toList_eq, ByteArray.toList_eq] at h
  obtain ⟨⟨x⟩⟩ := a
  obtain ⟨⟨y⟩⟩ := b
  have h' : x = y := h
  rw [h']
theorem equal35 (o p : O) (w : World) : (Op.equalIn 10000 35 (.agg o.arr) (.agg p.arr)).run Try.prog w = .ok (decide (o = p)) w := by
  cases o with | mk a b c d e s =>
  cases p with | mk a' b' c' d' e' s' =>
  unfold O.arr
  go_simp
  by_cases h1 : a = a'
  · by_cases h2 : b = b'
    · by_cases h3 : c = c'
      · by_cases h4 : d = d'
        · by_cases h5 : e = e'
          · by_cases h6 : s = s'
            · subst h1 h2 h3 h4 h5 h6; simp
            · have h7 : ¬ s.toList = s'.toList := fun q => h6 (bytes_inj q)
              simp [h1, h2, h3, h4, h5, h6, h7]
          · simp [h1, h2, h3, h4, h5]
        · simp [h1, h2, h3, h4]
      · simp [h1, h2, h3]
    · simp [h1, h2]
  · simp [h1]
/-- How many bytes a page takes. -/
def psize (os : List O) : Int := os.foldl (fun n o => n + if o.live then 11 + (o.delta.size : Int) else 1) 16
/-- Whether there may be such a page. -/
def okO (o : O) : Bool := (o.live || decide (o = O.zero)) && decide (o.delta.size ≤ 66)
def lastLive (os : List O) : Bool := match os.getLast? with | some o => o.live | none => true
def may (os : List O) : Bool := decide (os.length ≤ 15) && lastLive os && os.all okO && decide (psize os ≤ 224)
def liveN (os : List O) : Int := os.foldl (fun n o => n + if o.live then 1 else 0) 0
theorem load81 {w : World} {a : Addr} {o : O} (hc : ∀ j u, o.cells[j]? = some u → w.cell? (a.add j) = some u) : ∀ j u, [Value.bool o.live, .int .u16 o.page, .int .u32 o.ts, .int .u16 o.np, .int .u8 o.ns, .string o.delta][j]? = some u → w.cell? (a.add j) = some u := hc
end Go.Proofs.Ytihjapfgllokgab
namespace Go.Proofs.Ytihjapfgllokgab
open Go.ChangeShapes Go.WideShapes Go.ChangeAt Go.RowKit
set_option linter.unusedVariables false
set_option linter.unusedSimpArgs false
set_option maxRecDepth 20000

theorem wpList_load_any {P : Program} {ops : Array Oper} {rest : List Oper} {op : Oper} {a : Act} {w : World} {Q : Exit → Act → World → Prop} (hgd : op.guard = none) (ty : TypeId) (x : Operand) (ho : op.op = .load ty x)
    (p : Addr) (hx : a.eval x = .pointer (some p)) (cs : List Value) (d : TypeDesc) (hc : ∀ j v, cs[j]? = some v → w.cell? (p.add j) = some v)
    (hu : P.underlying ty = some d) (hd : d.isRow = true) (hi : (P.info? ty).map (·.size) = some cs.length)
    (h : wpList P ops Q rest (a.put op.dst (.agg cs.toArray)) w) : wpList P ops Q (op :: rest) a w := by
  refine wpList_plain hgd fun K hK => ?_
  have hl : (loadCells p cs.length).run P w = .ok cs.toArray w := run_loadCells_list (P := P) w p cs hc
  have hrun : (loadVar ty p).run P w = .ok (.agg cs.toArray) w := by
    cases hq : P.info? ty with
    | none => simp [hq] at hi
    | some i =>
      have hs : i.size = cs.length := by simpa [hq] using hi
      have hagg : (isAgg ty).run P w = .ok true w := by
        unfold isAgg
        rw [Sem.run_bind, run_underlying hu w]
        cases d <;> simp_all
      simp [loadVar, Sem.run_bind, hagg, sizeOf, typeInfo, hq, hs, hl]
  unfold Oper.wp execOp
  simp only [ho, hx, Instr.loadAt, Instr.sureAddr, Sem.run_bind, Sem.run_pure, Result.andThen_ok, hrun]
  exact hK _ _ h
theorem add_zero (a : Addr) : a.add 0 = a := by unfold Addr.add; split <;> simp_all
theorem take_fold (f : Int → O → Int) (z : Int) (os : List O) (k : Nat) (o : O) (h : os[k]? = some o) : (os.take (k + 1)).foldl f z = f ((os.take k).foldl f z) o := by
  rw [List.take_add_one, h]; simp [List.foldl_append]
theorem psize_succ (os : List O) (k : Nat) (o : O) (h : os[k]? = some o) : psize (os.take (k + 1)) = psize (os.take k) + if o.live then 11 + (o.delta.size : Int) else 1 := take_fold _ _ _ _ _ h
theorem size_le (os : List O) (B : Int) (hB : 1 ≤ B) (h : ∀ o ∈ os, 11 + (o.delta.size : Int) ≤ B) : ∀ k, k ≤ os.length → 16 ≤ psize (os.take k) ∧ psize (os.take k) ≤ 16 + k * B
  | 0, _ => by simp [psize]
  | k + 1, hk => by
    have ih := size_le os B hB h k (by omega)
    have e : os[k]? = some os[k] := by simp [show k < os.length by omega]
    have hm := h os[k] (List.getElem_mem _)
    rw [psize_succ _ _ _ e]
    have e2 : ((k + 1 : Nat) : Int) * B = k * B + B := by rw [show ((k + 1 : Nat) : Int) = (k : Int) + 1 by omega, Int.add_mul]; omega
    rw [e2]
    split <;> omega
theorem Olds.hold {w : World} {v : Value} {os : List O} (h : Olds w v os) : ∃ oa cap, v = .slice oa os.length cap ∧ ∀ i, i < os.length → ∃ (a : Addr) (l : Bool) (p t np ns : Int) (dl : ByteArray), oa = some a ∧ os[i]? = some ⟨l, p, t, np, ns, dl⟩ ∧ ∀ j u, [Value.bool l, .int .u16 p, .int .u32 t, .int .u16 np, .int .u8 ns, .string dl][j]? = some u → w.cell? ((a.add (i * 6)).add j) = some u := by
  obtain ⟨oa, cap, h1, h2⟩ := h.open
  refine ⟨oa, cap, h1, fun i hi => ?_⟩
  obtain ⟨a, ⟨l, p, t, np, ns, dl⟩, e1, e2, e3⟩ := h2 i hi
  exact ⟨a, l, p, t, np, ns, dl, e1, e2, e3⟩

set_option maxHeartbeats 1000000 in
theorem size_any (lsn : Int) (v : Value) (os : List O) (w : World) (ho : Olds w v os) (hn : os.length ≤ 1000) (hd : ∀ o ∈ os, o.delta.size ≤ 140737488355328) :
    Calls Try.prog 63 #[.agg #[.int .u64 lsn, v]] w fun e w' => e = .returned (.int .i64 (psize os)) ∧ Below w.heap.size w w' := by
  obtain ⟨oa, cap, rfl, hcs⟩ := ho.hold
  have HCS : Hid _ := hcs
  have HB : Hid _ := size_le os (11 + 140737488355328) (by omega) (fun o ho => by have := hd o ho; omega)
  have HD : Hid _ := hd
  clear hcs ho hd
  obtain ⟨n, HN⟩ : ∃ n, Hid (os.length = n) := ⟨_, rfl⟩
  rw [HN.out] at HCS hn HB ⊢
  have hz := zero35
  have ab : Below w.heap.size w (w.alloc (.cells #[.int .u64 lsn, .slice oa n cap] 64)) := (Below.refl _ _).alloc (Nat.le_refl _) _
  go_enter Try.func63, Try.ntmps63
  go_wp2
  go_loopw [3, 9] (fun c d wr => ∃ (k : Nat), c = .int .i64 (psize (os.take k)) ∧ d = .int .i64 k ∧ k ≤ n ∧ Below w.heap.size w wr) (fun _ d _ => n - (intOf d).toNat)
  case atStart => exact ⟨0, rfl, rfl, by omega, ab⟩
  case round =>
    clear ab
    obtain ⟨k, rfl, rfl, hk, rb⟩ := hrel
    by_cases hkn : k < n
    · have hkn' : (k : Int) < (n : Int) := by omega
      obtain ⟨a, l, p, t, np, ns, dl, rfl, he, hcell⟩ := HCS.out k hkn
      have hcw : ∀ j u, [Value.bool l, .int .u16 p, .int .u32 t, .int .u16 np, .int .u8 ns, .string dl][j]? = some u → wr.cell? ((a.add (k * 6)).add j) = some u := fun j u hj => cell_keep (hcell j u hj) rb
      have hs := psize_succ os k _ he
      have hb := HB.out k hk
      have hdl := HD.out _ (List.mem_of_getElem? he)
      have HM : Hid ((k : Int) * (11 + 140737488355328) ≤ 1000 * (11 + 140737488355328)) := Int.mul_le_mul_of_nonneg_right (by omega) (by omega)
      simp only at hs hdl
      obtain ⟨z, HZ⟩ : ∃ z, Hid (psize (os.take k) = z) := ⟨_, rfl⟩
      rw [HZ.out] at hs hb ⊢
      have hb1 := hb.1
      have hb2 : z ≤ 140737488355328 * 1001 := by have := HM.out; omega
      clear hb hcell
      have w1 : IntKind.i64.wrap (11 + (dl.size : Int)) = 11 + (dl.size : Int) := by rw [IntKind.wrap_i64]; omega
      have w2 : IntKind.i64.wrap (z + (11 + (dl.size : Int))) = z + (11 + (dl.size : Int)) := by rw [IntKind.wrap_i64]; omega
      have w3 : IntKind.i64.wrap (z + 1) = z + 1 := by rw [IntKind.wrap_i64]; omega
      have tl : Hid (1 = 1) := rfl
      cases l
      · go_wp2_with (have hh := tl; clear hh tl; refine wpList_load_any rfl 35 (.tmp 11) rfl (a.add (k * 6)) rfl [.bool false, .int .u16 p, .int .u32 t, .int .u16 np, .int .u8 ns, .string dl] _ hcw Try.underlying35 rfl size35 ?_)
        go_roundw
        case rel => exact ⟨k + 1, by rw [hs]; simp, by go_num, by omega, rb.alloc rb.size _⟩
        case measure => simp [intOf]; omega
      · go_wp2_with (have hh := tl; clear hh tl; refine wpList_load_any rfl 35 (.tmp 11) rfl (a.add (k * 6)) rfl [.bool true, .int .u16 p, .int .u32 t, .int .u16 np, .int .u8 ns, .string dl] _ hcw Try.underlying35 rfl size35 ?_)
        go_roundw
        case rel => exact ⟨k + 1, by rw [hs]; simp, by go_num, by omega, rb.alloc rb.size _⟩
        case measure => simp [intOf]; omega
    · obtain rfl : k = n := by omega
      have hkn' : ¬ (k : Int) < (k : Int) := by omega
      have ht : os.take k = os := by rw [← HN.out, List.take_length]
      rw [ht]
      go_wp2
      go_ret
      exact ⟨rfl, rb⟩
end Go.Proofs.Ytihjapfgllokgab
