/-
  Proved here: how many bytes an undo page takes (page.Size), how many records are live (slot.Live).
-/
import Derived.Test.YtddhjkgefninbaaOld
namespace Go.Proofs.Ytddhjkgefninbaa
open Go.ChangeShapes Go.WideShapes Go.ChangeAt Go.RowKit
set_option linter.unusedVariables false
set_option linter.unusedSimpArgs false
set_option maxRecDepth 20000

theorem wpList_load_any {P : Program} {ops : Array Oper} {rest : List Oper} {op : Oper} {a : Act} {w : World} {Q : Exit → Act → World → Prop} (hgd : op.guard = none) (ty : TypeId) (x : Operand) (ho : op.op = .load ty x)
    (p : Addr) (hx : a.eval x = .pointer (some p)) (cs : List Value) (d : TypeDesc) (hc : ∀ j v, cs[j]? = some v → w.cell? (p.add j) = some v)
    (hu : P.underlying ty = some d) (hd : d.isRow = true) (hi : (P.info? ty).map (·.size) = some cs.length)
    (h : wpList P ops Q rest (a.put op.dst (.agg cs.toArray)) w) : wpList P ops Q (op :: rest) a w := by
  refine wpList_plain hgd fun K hK => ?_
  have hl : (loadCells p cs.length).run P w = .ok cs.toArray w := run_loadCells_list (P := P) w p cs hc
  have hrun : (loadVar ty p).run P w = .ok (.agg cs.toArray) w := by
    cases hq : P.info? ty with
    | none => simp [hq] at hi
    | some i =>
      have hs : i.size = cs.length := by simpa [hq] using hi
      have hagg : (isAgg ty).run P w = .ok true w := by
        unfold isAgg
        rw [Sem.run_bind, run_underlying hu w]
        cases d <;> simp_all
      simp [loadVar, Sem.run_bind, hagg, sizeOf, typeInfo, hq, hs, hl]
  unfold Oper.wp execOp
  simp only [ho, hx, Instr.loadAt, Instr.sureAddr, Sem.run_bind, Sem.run_pure, Result.andThen_ok, hrun]
  exact hK _ _ h
theorem add_zero (a : Addr) : a.add 0 = a := by unfold Addr.add; split <;> simp_all
theorem take_fold (f : Int → O → Int) (z : Int) (os : List O) (k : Nat) (o : O) (h : os[k]? = some o) : (os.take (k + 1)).foldl f z = f ((os.take k).foldl f z) o := by
  rw [List.take_add_one, h]; simp [List.foldl_append]
theorem psize_succ (os : List O) (k : Nat) (o : O) (h : os[k]? = some o) : psize (os.take (k + 1)) = psize (os.take k) + if o.live then 11 + (o.delta.size : Int) else 1 := take_fold _ _ _ _ _ h
theorem liveN_succ (os : List O) (k : Nat) (o : O) (h : os[k]? = some o) : liveN (os.take (k + 1)) = liveN (os.take k) + if o.live then 1 else 0 := take_fold _ _ _ _ _ h
theorem size_le (os : List O) (B : Int) (hB : 1 ≤ B) (h : ∀ o ∈ os, 11 + (o.delta.size : Int) ≤ B) : ∀ k, k ≤ os.length → 16 ≤ psize (os.take k) ∧ psize (os.take k) ≤ 16 + k * B
  | 0, _ => by simp [psize]
  | k + 1, hk => by
    have ih := size_le os B hB h k (by omega)
    have e : os[k]? = some os[k] := by simp [show k < os.length by omega]
    have hm := h os[k] (List.getElem_mem _)
    rw [psize_succ _ _ _ e]
    have e2 : ((k + 1 : Nat) : Int) * B = k * B + B := by rw [show ((k + 1 : Nat) : Int) = (k : Int) + 1 by omega, Int.add_mul]; omega
    rw [e2]
    split <;> omega
theorem live_le (os : List O) : ∀ k, k ≤ os.length → 0 ≤ liveN (os.take k) ∧ liveN (os.take k) ≤ k
  | 0, _ => by simp [liveN]
  | k + 1, hk => by
    have ih := live_le os k (by omega)
    have e : os[k]? = some os[k] := by simp [show k < os.length by omega]
    rw [liveN_succ _ _ _ e]
    split <;> omega
theorem Olds.hold {w : World} {v : Value} {os : List O} (h : Olds w v os) : ∃ oa cap, v = .slice oa os.length cap ∧ ∀ i, i < os.length → ∃ (a : Addr) (l : Bool) (p t np ns : Int) (dl : ByteArray), oa = some a ∧ os[i]? = some ⟨l, p, t, np, ns, dl⟩ ∧ ∀ j u, [Value.bool l, .int .u16 p, .int .u32 t, .int .u16 np, .int .u8 ns, .string dl][j]? = some u → w.cell? ((a.add (i * 6)).add j) = some u := by
  obtain ⟨oa, cap, h1, h2⟩ := h.open
  refine ⟨oa, cap, h1, fun i hi => ?_⟩
  obtain ⟨a, ⟨l, p, t, np, ns, dl⟩, e1, e2, e3⟩ := h2 i hi
  exact ⟨a, l, p, t, np, ns, dl, e1, e2, e3⟩

set_option maxHeartbeats 1000000 in
theorem size_any (lsn : Int) (v : Value) (os : List O) (w : World) (ho : Olds w v os) (hn : os.length ≤ 1000) (hd : ∀ o ∈ os, o.delta.size ≤ 140737488355328) :
    Calls Try.prog 34 #[.agg #[.int .u64 lsn, v]] w fun e w' => e = .returned (.int .i64 (psize os)) ∧ Below w.heap.size w w' := by
  obtain ⟨oa, cap, rfl, hcs⟩ := ho.hold
  have HCS : Hid _ := hcs
  have HB : Hid _ := size_le os (11 + 140737488355328) (by omega) (fun o ho => by have := hd o ho; omega)
  have HD : Hid _ := hd
  clear hcs ho hd
  obtain ⟨n, HN⟩ : ∃ n, Hid (os.length = n) := ⟨_, rfl⟩
  rw [HN.out] at HCS hn HB ⊢
  have hz := zero50
  have ab : Below w.heap.size w (w.alloc (.cells #[.int .u64 lsn, .slice oa n cap] 33)) := (Below.refl _ _).alloc (Nat.le_refl _) _
  go_enter Try.func34, Try.ntmps34
  go_wp2
  go_loopw [3, 9] (fun c d wr => ∃ (k : Nat), c = .int .i64 (psize (os.take k)) ∧ d = .int .i64 k ∧ k ≤ n ∧ Below w.heap.size w wr) (fun _ d _ => n - (intOf d).toNat)
  case atStart => exact ⟨0, rfl, rfl, by omega, ab⟩
  case round =>
    clear ab
    obtain ⟨k, rfl, rfl, hk, rb⟩ := hrel
    by_cases hkn : k < n
    · have hkn' : (k : Int) < (n : Int) := by omega
      obtain ⟨a, l, p, t, np, ns, dl, rfl, he, hcell⟩ := HCS.out k hkn
      have hcw : ∀ j u, [Value.bool l, .int .u16 p, .int .u32 t, .int .u16 np, .int .u8 ns, .string dl][j]? = some u → wr.cell? ((a.add (k * 6)).add j) = some u := fun j u hj => cell_keep (hcell j u hj) rb
      have hs := psize_succ os k _ he
      have hb := HB.out k hk
      have hdl := HD.out _ (List.mem_of_getElem? he)
      have HM : Hid ((k : Int) * (11 + 140737488355328) ≤ 1000 * (11 + 140737488355328)) := Int.mul_le_mul_of_nonneg_right (by omega) (by omega)
      simp only at hs hdl
      obtain ⟨z, HZ⟩ : ∃ z, Hid (psize (os.take k) = z) := ⟨_, rfl⟩
      rw [HZ.out] at hs hb ⊢
      have hb1 := hb.1
      have hb2 : z ≤ 140737488355328 * 1001 := by have := HM.out; omega
      clear hb hcell
      have w1 : IntKind.i64.wrap (11 + (dl.size : Int)) = 11 + (dl.size : Int) := by rw [IntKind.wrap_i64]; omega
      have w2 : IntKind.i64.wrap (z + (11 + (dl.size : Int))) = z + (11 + (dl.size : Int)) := by rw [IntKind.wrap_i64]; omega
      have w3 : IntKind.i64.wrap (z + 1) = z + 1 := by rw [IntKind.wrap_i64]; omega
      have tl : Hid (1 = 1) := rfl
      cases l
      · go_wp2_with (have hh := tl; clear hh tl; refine wpList_load_any rfl 50 (.tmp 11) rfl (a.add (k * 6)) rfl [.bool false, .int .u16 p, .int .u32 t, .int .u16 np, .int .u8 ns, .string dl] _ hcw Try.underlying50 rfl size50 ?_)
        go_roundw
        case rel => exact ⟨k + 1, by rw [hs]; simp, by go_num, by omega, rb.alloc rb.size _⟩
        case measure => simp [intOf]; omega
      · go_wp2_with (have hh := tl; clear hh tl; refine wpList_load_any rfl 50 (.tmp 11) rfl (a.add (k * 6)) rfl [.bool true, .int .u16 p, .int .u32 t, .int .u16 np, .int .u8 ns, .string dl] _ hcw Try.underlying50 rfl size50 ?_)
        go_roundw
        case rel => exact ⟨k + 1, by rw [hs]; simp, by go_num, by omega, rb.alloc rb.size _⟩
        case measure => simp [intOf]; omega
    · obtain rfl : k = n := by omega
      have hkn' : ¬ (k : Int) < (k : Int) := by omega
      have ht : os.take k = os := by rw [← HN.out, List.take_length]
      rw [ht]
      go_wp2
      go_ret
      exact ⟨rfl, rb⟩
set_option maxHeartbeats 1000000 in
theorem live_any (lsn : Int) (v : Value) (os : List O) (w : World) (ho : Olds w v os) (hn : os.length ≤ 1000) :
    Calls Try.prog 14 #[.agg #[.int .u64 lsn, v]] w fun e w' => e = .returned (.int .i64 (liveN os)) ∧ Below w.heap.size w w' := by
  obtain ⟨oa, cap, rfl, hcs⟩ := ho.hold
  have HCS : Hid _ := hcs
  have HB : Hid _ := live_le os
  clear hcs ho
  obtain ⟨n, HN⟩ : ∃ n, Hid (os.length = n) := ⟨_, rfl⟩
  rw [HN.out] at HCS hn HB ⊢
  have hz := zero50
  have ab : Below w.heap.size w (w.alloc (.cells #[.int .u64 lsn, .slice oa n cap] 33)) := (Below.refl _ _).alloc (Nat.le_refl _) _
  go_enter Try.func14, Try.ntmps14
  go_wp2
  go_loopw [3, 9] (fun c d wr => ∃ (k : Nat), c = .int .i64 (liveN (os.take k)) ∧ d = .int .i64 k ∧ k ≤ n ∧ Below w.heap.size w wr) (fun _ d _ => n - (intOf d).toNat)
  case atStart => exact ⟨0, rfl, rfl, by omega, ab⟩
  case round =>
    clear ab
    obtain ⟨k, rfl, rfl, hk, rb⟩ := hrel
    by_cases hkn : k < n
    · have hkn' : (k : Int) < (n : Int) := by omega
      obtain ⟨a, l, p, t, np, ns, dl, rfl, he, hcell⟩ := HCS.out k hkn
      have hcw : ∀ j u, [Value.bool l, .int .u16 p, .int .u32 t, .int .u16 np, .int .u8 ns, .string dl][j]? = some u → wr.cell? ((a.add (k * 6)).add j) = some u := fun j u hj => cell_keep (hcell j u hj) rb
      have hs := liveN_succ os k _ he
      have hb := HB.out k hk
      simp only at hs
      obtain ⟨z, HZ⟩ : ∃ z, Hid (liveN (os.take k) = z) := ⟨_, rfl⟩
      rw [HZ.out] at hs hb ⊢
      have hb1 := hb.1
      have hb2 := hb.2
      clear hb hcell
      have w3 : IntKind.i64.wrap (z + 1) = z + 1 := by rw [IntKind.wrap_i64]; omega
      have tl : Hid (1 = 1) := rfl
      cases l
      · go_wp2_with (have hh := tl; clear hh tl; refine wpList_load_any rfl 50 (.tmp 11) rfl (a.add (k * 6)) rfl [.bool false, .int .u16 p, .int .u32 t, .int .u16 np, .int .u8 ns, .string dl] _ hcw Try.underlying50 rfl size50 ?_)
        go_roundw
        case rel => exact ⟨k + 1, by rw [hs]; simp, by go_num, by omega, rb.alloc rb.size _⟩
        case measure => simp [intOf]; omega
      · go_wp2_with (have hh := tl; clear hh tl; refine wpList_load_any rfl 50 (.tmp 11) rfl (a.add (k * 6)) rfl [.bool true, .int .u16 p, .int .u32 t, .int .u16 np, .int .u8 ns, .string dl] _ hcw Try.underlying50 rfl size50 ?_)
        go_roundw
        case rel => exact ⟨k + 1, by rw [hs]; simp, by go_num, by omega, rb.alloc rb.size _⟩
        case measure => simp [intOf]; omega
    · obtain rfl : k = n := by omega
      have hkn' : ¬ (k : Int) < (k : Int) := by omega
      have ht : os.take k = os := by rw [← HN.out, List.take_length]
      rw [ht]
      go_wp2
      go_ret
      exact ⟨rfl, rb⟩
end Go.Proofs.Ytddhjkgefninbaa
