/-
  Proved here: log.lay: sealed blocks are written, one behind the other, and synced. Proved here: log.Append. Proved here: log.Scan. Proved here: what a log that isn't there answers, and a scan of a disk that isn't. Proved here: where a log's stream ends, and up to where it lasts. Proved here: how many of a log's blocks that last hold nothing from a place on. A log and its disk in memory; what stays so behind seal and lay.
-/
import Derived.Test.YtehogiondcpbcaaJq11
namespace Go.Proofs.Ytehogiondcpbcaa
open Go.ChangeShapes Go.WideShapes Go.ChangeAt Go.RowKit
set_option linter.unusedVariables false
set_option linter.unusedSimpArgs false
set_option maxRecDepth 20000
theorem Ck.Own.off {F : Nat → Prop} {w w' : World} {base : Nat} {v : Value} {os : List Ck.O} (h : Ck.Own w base v os) (ho : Off F w w') (hF : ∀ j, v.ownBlock = some j → ¬ F j) : Ck.Own w' base v os := by
  have hl := World.ownsRow.lt h
  obtain ⟨h1, h2⟩ := h
  refine ⟨h1, ?_⟩
  rcases h2 with h2 | ⟨g, cap, cur, rfl, hb', hc, rest⟩
  · exact Or.inl h2
  · exact Or.inr ⟨g, cap, cur, rfl, hb', (ho.block g (hl g rfl).2 (hF g rfl)).trans hc, rest⟩
theorem load_any_g {P : Program} {ops : Array Oper} {rest : List Oper} {op : Oper} {a : Act} {w : World} {Q : Exit → Act → World → Prop} (hgd : Region.wanted op (yielded ops a.tmps) = true) (ty : TypeId) (x : Operand) (ho : op.op = .load ty x)
    (p : Addr) (hx : a.eval x = .pointer (some p)) (cs : List Value) (d : TypeDesc) (hc : ∀ j v, cs[j]? = some v → w.cell? (p.add j) = some v)
    (hu : P.underlying ty = some d) (hd : d.isRow = true) (hi : (P.info? ty).map (·.size) = some cs.length)
    (h : wpList P ops Q rest (a.put op.dst (.agg cs.toArray)) w) : wpList P ops Q (op :: rest) a w := by
  refine BigFrame.wpList_want hgd fun K hK => ?_
  have hl : (loadCells p cs.length).run P w = .ok cs.toArray w := run_loadCells_list (P := P) w p cs hc
  have hrun : (loadVar ty p).run P w = .ok (.agg cs.toArray) w := by
    cases hq : P.info? ty with
    | none => simp [hq] at hi
    | some i =>
      have hs : i.size = cs.length := by simpa [hq] using hi
      have hagg : (isAgg ty).run P w = .ok true w := by
        unfold isAgg
        rw [Sem.run_bind, run_underlying hu w]
        cases d <;> simp_all
      simp [loadVar, Sem.run_bind, hagg, sizeOf, typeInfo, hq, hs, hl]
  unfold Oper.wp execOp
  simp only [ho, hx, Instr.loadAt, Instr.sureAddr, Sem.run_bind, Sem.run_pure, Result.andThen_ok, hrun]
  exact hK _ _ h
structure Ck.O.Ok (c : Ck.O) : Prop where
  ep : 0 ≤ c.ep ∧ c.ep ≤ 4294967295
  num : 0 ≤ c.num ∧ c.num ≤ 4294967295
  off : 0 ≤ c.off ∧ c.off ≤ 18446744073709551615
  txt : okC c.txt = true
def blkC (c : Ck.O) : List Int := packB c.ep c.num c.off (nums c.txt)
theorem blkC_length (c : Ck.O) : (blkC c).length = 256 := packB_length _ _ _ _
theorem blkC_bytes (c : Ck.O) : Bytes (blkC c) := packB_bytes _ _ _ _ (nums_bytes _)
def wrS (a z : Int) : List Ck.O → Dsk → Int × Dsk
  | [], d => (0, d)
  | c :: cs, d => if (writ d (placeV a z c.num) (blkC c)).1 = 0 then wrS a z cs (writ d (placeV a z c.num) (blkC c)).2 else writ d (placeV a z c.num) (blkC c)
theorem wrS_nil (a z : Int) (d : Dsk) : wrS a z [] d = (0, d) := rfl
theorem wrS_cons (a z : Int) (c : Ck.O) (cs : List Ck.O) (d : Dsk) : wrS a z (c :: cs) d = if (writ d (placeV a z c.num) (blkC c)).1 = 0 then wrS a z cs (writ d (placeV a z c.num) (blkC c)).2 else writ d (placeV a z c.num) (blkC c) := rfl
theorem wrS_one (a z : Int) (c : Ck.O) (d : Dsk) : wrS a z [c] d = writ d (placeV a z c.num) (blkC c) := by
  rw [wrS_cons, wrS_nil]
  by_cases h : (writ d (placeV a z c.num) (blkC c)).1 = 0
  · rw [if_pos h]; exact Prod.ext h.symm rfl
  · rw [if_neg h]
theorem wrS_append (a z : Int) (l2 : List Ck.O) : ∀ (l1 : List Ck.O) (d : Dsk), wrS a z (l1 ++ l2) d = if (wrS a z l1 d).1 = 0 then wrS a z l2 (wrS a z l1 d).2 else wrS a z l1 d
  | [], d => by rw [List.nil_append, wrS_nil]; rfl
  | c :: l1, d => by
    rw [List.cons_append, wrS_cons, wrS_cons]
    by_cases h : (writ d (placeV a z c.num) (blkC c)).1 = 0
    · simp only [if_pos h]; exact wrS_append a z l2 l1 _
    · simp only [if_neg h]
def layR (a z : Int) (cs : List Ck.O) (d : Dsk) : Int × Dsk := if cs = [] then (0, d) else if (wrS a z cs d).1 = 0 then sync (wrS a z cs d).2 else wrS a z cs d
theorem writ_ops1 (d : Dsk) (b : Int) (x : List Int) : (writ d b x).2.ops ≤ d.ops + 1 := by
  have ha : (ask d b).2.ops ≤ d.ops + 1 := by
    unfold ask
    split
    · simp; omega
    · split
      · unfold count; split
        · simp
        · split <;> simp
      · simp; omega
  unfold writ
  split
  · show ((ask d b).2.wrote b x 4).ops ≤ _
    rw [(wrote_ops _ _ _).1]; exact ha
  · exact ha
theorem wrS_ops (a z : Int) : ∀ (cs : List Ck.O) (d : Dsk), (wrS a z cs d).2.ops ≤ d.ops + cs.length
  | [], d => by simp [wrS]
  | c :: cs, d => by
    have h := writ_ops1 d (placeV a z c.num) (blkC c)
    unfold wrS
    split
    · have := wrS_ops a z cs (writ d (placeV a z c.num) (blkC c)).2
      simp; omega
    · simp; omega
theorem Crashed.below {w wa wb : World} {g : Nat} {d : Dsk} {L : Loc} {N : Nat} (h : Crashed w g d L N wa) (hb : Below wa.heap.size wa wb) : Crashed w g d L N wb := by
  obtain ⟨L', h1, h2, h3⟩ := h
  exact ⟨L', h1.below hb, h2.trans (Off.of_below (F := fun _ => False) hb) (fun _ q => q.elim), h3⟩
theorem Crashed.write {w wa : World} {g : Nat} {d : Dsk} {L L' : Loc} {N : Nat} (h1 : DAt wa g d L' N) (h2 : Off (foot g L) w wa) (h3 : ∀ j, foot g L' j → foot g L j ∨ w.heap.size ≤ j) (ho : d.ops < 9223372036854775806) (b : Int) (x : List Int) (hx : x.length = 256) (xb : Bytes x) (hN : N + 4 < 1000000000000) :
    Calls Try.prog 30 #[.pointer (some ⟨g, 0, none⟩), .int .i64 b, .agg (bs x)] wa fun e w' => e = .returned (.int .i64 (writ d b x).1) ∧ Crashed w g (writ d b x).2 L (N + 4) w' ∧ Off (foot g L') wa w' := by
  refine (write_any h1 ho b x hx xb hN).mono ?_
  rintro e w' ⟨rfl, L2, k1, k2, k3⟩
  refine ⟨rfl, ⟨L2, k1, h2.trans k2 h3, fun j hj => ?_⟩, k2⟩
  rcases k3 j hj with q | q
  · exact h3 j q
  · exact Or.inr (Nat.le_trans h2.size q)
theorem Crashed.grow {w wa : World} {g : Nat} {d : Dsk} {L : Loc} {N M : Nat} (h : Crashed w g d L N wa) (hm : N ≤ M) (hM : M < 1000000000000) : Crashed w g d L M wa := by
  obtain ⟨L', h1, h2, h3⟩ := h
  exact ⟨L', h1.grow hm hM, h2, h3⟩
theorem Crashed.sync {w wa : World} {g : Nat} {d : Dsk} {L : Loc} {N : Nat} (h : Crashed w g d L N wa) (ho : d.ops < 9223372036854775806) :
    Calls Try.prog 89 #[.pointer (some ⟨g, 0, none⟩)] wa fun e w' => e = .returned (.int .i64 (sync d).1) ∧ Crashed w g (sync d).2 L N w' := by
  obtain ⟨L', h1, h2, h3⟩ := h
  refine (sync_any h1 ho).mono ?_
  rintro e w' ⟨rfl, L2, k1, k2, k3⟩
  refine ⟨rfl, L2, k1, h2.trans k2 h3, fun j hj => ?_⟩
  rcases k3 j hj with q | q
  · exact h3 j q
  · exact Or.inr (Nat.le_trans h2.size q)
set_option maxHeartbeats 8000000 in
theorem lay_any (w : World) (gl gd : Nat) (vl vs : Value) (l : Lg) (d : Dsk) (L : Loc) (N f t : Nat) (hr : Row w gl (lcells (.pointer (some ⟨gd, 0, none⟩)) vl vs l) 99) (ho : Ck.Own w (gl + 1) vs l.sealed) (hD : DAt w gd d L N) (hfg : ¬ foot gd L gl) (hfv : ∀ j, vs.ownBlock = some j → ¬ foot gd L j)
    (hok : ∀ c ∈ l.sealed, c.Ok) (hf : f ≤ t) (ht : t ≤ l.sealed.length) (hs : l.sealed.length ≤ 100000) (ha : 0 ≤ l.at_ ∧ l.at_ ≤ 4294967295) (hz : 1 ≤ l.size ∧ l.size ≤ 4294967295) (hop : d.ops + l.sealed.length + 2 < 9223372036854775806) (hN : N + 4 * l.sealed.length + 4 < 1000000000000) :
    Calls Try.prog 127 #[.pointer (some ⟨gl, 0, none⟩), .int .i64 f, .int .i64 t] w fun e w' => e = .returned (.int .i64 (layR l.at_ l.size ((l.sealed.drop f).take (t - f)) d).1) ∧ Crashed w gd (layR l.at_ l.size ((l.sealed.drop f).take (t - f)) d).2 L (N + 4 * (t - f)) w' := by
  obtain ⟨cs, HCS⟩ : ∃ x, Hid ((l.sealed.drop f).take (t - f) = x) := ⟨_, rfl⟩
  rw [HCS.out]
  have hcl : cs.length = t - f := by rw [← HCS.out, List.length_take, List.length_drop]; omega
  have hcat : ∀ k, k < t - f → cs[k]? = l.sealed[f + k]? := fun k hk => by rw [← HCS.out, List.getElem?_take, if_pos hk, List.getElem?_drop]
  obtain ⟨PP, HPP⟩ : ∃ PP : Ending → World → Prop, Hid (PP = fun e w' => e = .returned (.int .i64 (layR l.at_ l.size cs d).1) ∧ Crashed w gd (layR l.at_ l.size cs d).2 L (N + 4 * (t - f)) w') := ⟨_, rfl⟩
  rw [← HPP.out]
  obtain ⟨ob, cb, hv⟩ := ho.form
  subst hv
  obtain ⟨M, HM⟩ : ∃ M, Hid (l.sealed.length = M) := ⟨_, rfl⟩
  rw [HM.out] at hr ho hfv ht hs hop hN
  unfold lcells at hr
  have hz1 := zero41
  have hz2 := zero164
  by_cases hft : f = t
  · have HK : Hid (PP (.returned (.int .i64 0)) w) := by
      show PP _ _
      rw [HPP.out]
      have hc0 : cs = [] := List.eq_nil_of_length_eq_zero (by omega)
      have e0 : layR l.at_ l.size cs d = (0, d) := by unfold layR; rw [if_pos hc0]
      rw [e0]
      exact ⟨rfl, L, hD.grow (by omega) (by omega), Off.refl _ _, fun j hj => Or.inl hj⟩
    have hft' : ((f : Int) == (t : Int)) = true := by simp [hft]
    have hft2 : (f : Int) = (t : Int) := by omega
    clear hft hr ho hD
    go_enter Try.func127, Try.ntmps127
    go_wp2
    try go_ret
    exact HK.out
  have hft2 : ¬ (f : Int) = (t : Int) := by omega
  have hwr : IntKind.i64.wrap ((t : Int) - f) = ((t - f : Nat) : Int) := by rw [IntKind.wrap_i64]; omega
  obtain ⟨m, Hm⟩ : ∃ m, Hid (t - f = m) := ⟨_, rfl⟩
  have hm1 : 1 ≤ m := by rw [← Hm.out]; omega
  have hmM : f + m ≤ M := by rw [← Hm.out]; omega
  rw [Hm.out] at hwr hcl hcat HPP
  have HB0 : Hid (Crashed w gd d L (N + 4 * 0) w) := ⟨L, hD, Off.refl _ _, fun j hj => Or.inl hj⟩
  have HROW : Hid (∀ wr, Off (foot gd L) w wr → Row wr gl #[.pointer (some ⟨gd, 0, none⟩), .int .i64 l.at_, .int .i64 l.size, .int .u32 l.ep, vl, .slice ob M cb, .string l.open_, .int .u32 l.next, .bool l.fresh, .int .u64 l.fin, .int .u64 l.dur] 99 ∧ Ck.Own wr (gl + 1) (.slice ob M cb) l.sealed) := fun wr o => ⟨hr.off o hfg, ho.off o hfv⟩
  have HPK : Hid (∀ (c : Ck.O) (w : World), c.Ok → Calls Try.prog 128 #[.agg #[.int .u32 c.ep, .int .u32 c.num, .int .u64 c.off, .string c.txt]] w fun ex w' => ex = .returned (.tuple #[.agg (bs (blkC c)), .int .i64 0]) ∧ Below w.heap.size w w') := fun c w hc => by
    have h1 : okC c.txt = true := hc.txt
    have h2 : 1 ≤ c.txt.size ∧ c.txt.size ≤ 214 := by have h3 := h1; unfold okC at h3; exact of_decide_eq_true h3
    have := pack_any c.ep c.num c.off c.txt w hc.ep hc.num hc.off (by unfold maxLen; omega)
    have e1 : packV c.ep c.num c.off c.txt = blkC c := by unfold packV; rw [h1]; rfl
    have e2 : packE c.txt = 0 := by unfold packE; rw [h1]; rfl
    rw [e1, e2] at this
    exact this
  have hlr := hr.lt
  clear hr ho
  go_enter Try.func127, Try.ntmps127
  go_wp2
  go_loopw [18] (fun i wr => ∃ (k : Nat), k ≤ m ∧ i = .int .i64 k ∧ (wrS l.at_ l.size (cs.take k) d).1 = 0 ∧ Crashed w gd (wrS l.at_ l.size (cs.take k) d).2 L (N + 4 * k) wr) (fun i _ => m - (intOf i).toNat)
  case atStart => exact ⟨0, by omega, rfl, rfl, HB0.out⟩
  case round =>
    clear HB0
    obtain ⟨k, hk, rfl, hE0, hC⟩ := hrel
    obtain ⟨L', hD', hO', hF'⟩ := hC
    obtain ⟨b0, bo⟩ := HROW.out _ hO'
    by_cases hkm : k < m
    · obtain ⟨oa', cap', hv', hcell⟩ := (Ck.Own.olds bo).open
      rw [HM.out] at hv' hcell
      cases hv'
      obtain ⟨a, c, rfl, hc0, hcc⟩ := hcell (f + k) (by omega)
      have hck : cs[k]? = some c := by rw [hcat k hkm]; exact hc0
      have hcOk := hok c (List.mem_of_getElem? hc0)
      have hSt : wrS l.at_ l.size (cs.take (k + 1)) d = writ (wrS l.at_ l.size (cs.take k) d).2 (placeV l.at_ l.size c.num) (blkC c) := by
        rw [List.take_add_one, hck]
        show wrS l.at_ l.size (cs.take k ++ [c]) d = _
        rw [wrS_append, if_pos hE0, wrS_one]
      have hops := wrS_ops l.at_ l.size (cs.take k) d
      have hlk : (cs.take k).length = k := by rw [List.length_take]; omega
      rw [hlk] at hops
      generalize wrS l.at_ l.size (cs.take k) d = rk at hE0 hD' hSt hops
      obtain ⟨E0, dk⟩ := rk
      simp only at hE0 hD' hSt hops
      have HPL : Hid (∀ w, Calls Try.prog 129 #[.agg #[.pointer (some ⟨gd, 0, none⟩), .int .i64 l.at_, .int .i64 l.size], .int .u32 c.num] w fun e w' => e = .returned (.int .i64 (placeV l.at_ l.size c.num)) ∧ Below w.heap.size w w') := fun w => place_any _ _ _ _ w ha hz hcOk.num
      have HWR : Hid (∀ wx, Below wr.heap.size wr wx → Calls Try.prog 30 #[.pointer (some ⟨gd, 0, none⟩), .int .i64 (placeV l.at_ l.size c.num), .agg (bs (blkC c))] wx fun e w' => e = .returned (.int .i64 (writ dk (placeV l.at_ l.size c.num) (blkC c)).1) ∧ Crashed w gd (writ dk (placeV l.at_ l.size c.num) (blkC c)).2 L (N + 4 * k + 4) w' ∧ Off (foot gd L') wx w') := fun wx hb =>
        Crashed.write (hD'.below hb) (hO'.trans (Off.of_below (F := fun _ => False) hb) (fun _ q => q.elim)) hF' (by omega) _ _ (blkC_length c) (blkC_bytes c) (by omega)
      have HPC : Hid _ := fun w => HPK.out c w hcOk
      have HFL : Hid (∀ j, foot gd L' j → j < wr.heap.size) := fun j hj => hD'.lt hj
      have hng : ¬ foot gd L' gl := fun q => (hF' gl q).elim hfg (fun q => by omega)
      have hVl := blkC_length c
      generalize blkC c = V at hSt HWR HPC hVl
      have hVb : (bs V).size = 256 := by rw [bs_size]; exact hVl
      generalize placeV l.at_ l.size c.num = PL at hSt HPL HWR
      generalize writ dk PL V = rw1 at hSt HWR
      obtain ⟨E, d2⟩ := rw1
      have hkm' : (k : Int) < (m : Int) := by omega
      have hidx : IntKind.i64.wrap ((f : Int) + k) = ((f + k : Nat) : Int) := by rw [IntKind.wrap_i64]; omega
      have hix1 : ((f + k : Nat) : Int) < (M : Int) := by omega
      have hix0 : (0 : Int) ≤ ((f + k : Nat) : Int) := by omega
      have tl : Hid (1 = 1) := rfl
      have d5 := row_at b0 5 _ rfl
      have q8 : Row (wr.alloc (.cells #[.int .u32 0, .int .u32 0, .int .u64 0, .string ByteArray.empty] 164)) wr.heap.size #[.int .u32 0, .int .u32 0, .int .u64 0, .string ByteArray.empty] 164 := Row.new _ _ _
      go_upto_region 7 with (first
        | (have hh := tl; clear hh tl; refine load_any_g rfl 164 (.tmp 28) rfl (a.add ((f + k) * 4)) rfl c.cells _ hcc Try.underlying164 rfl Ck.size164 ?_)
        | (refine store_cells rfl 164 (.tmp 8) (.tmp 29) rfl wr.heap.size #[.int .u32 c.ep, .int .u32 c.num, .int .u64 c.off, .string c.txt] rfl rfl 164 _ q8 4 Ck.size164 rfl rfl (by simp [Value.oneCell']) ?_))
      have s8 := q8.set #[.int .u32 c.ep, .int .u32 c.num, .int .u64 c.off, .string c.txt]
      have s0 := (b0.alloc (.cells #[.int .u32 0, .int .u32 0, .int .u64 0, .string ByteArray.empty] 164)).other (g := wr.heap.size) (by have := b0.lt; omega) #[.int .u32 c.ep, .int .u32 c.num, .int .u64 c.off, .string c.txt]
      have sb := below_setRow ((Below.refl wr.heap.size wr).alloc (Nat.le_refl _) (.cells #[.int .u32 0, .int .u32 0, .int .u64 0, .string ByteArray.empty] 164)) (Nat.le_refl _) #[.int .u32 c.ep, .int .u32 c.num, .int .u64 c.off, .string c.txt]
      clear q8 b0 bo d5 hcc hc0 hck
      generalize (wr.alloc (.cells #[.int .u32 0, .int .u32 0, .int .u64 0, .string ByteArray.empty] 164)).setRow wr.heap.size #[.int .u32 c.ep, .int .u32 c.num, .int .u64 c.off, .string c.txt] = w7 at s8 s0 sb ⊢
      go_upto_region 10 with (first
        | (refine load_cells rfl 164 (.tmp 8) rfl wr.heap.size rfl 164 #[.int .u32 c.ep, .int .u32 c.num, .int .u64 c.off, .string c.txt] s8 4 Try.underlying164 rfl Ck.size164 rfl ?_)
        | (go_at_call 128; refine Calls.mono (HPC.out _) ?_; clear HPC; rintro e w8 ⟨rfl, h8⟩
           have t8 := (s8.below h8 s8.lt).alloc (.cells (bs (zs 256)) 41)
           have t0 := (s0.below h8 s0.lt).alloc (.cells (bs (zs 256)) 41)
           have t9 : Row (w8.alloc (.cells (bs (zs 256)) 41)) w8.heap.size (bs (zs 256)) 41 := Row.new _ _ _
           have tb0 := sb.trans (h8.mono sb.size)
           have tb := tb0.alloc tb0.size (.cells (bs (zs 256)) 41)
           have hl8 := (s8.below h8 s8.lt).lt
           have hl0 := (s0.below h8 s0.lt).lt)
        | (refine store_row rfl 41 (.tmp 9) (.tmp 33) rfl w8.heap.size V rfl rfl 41 _ t9 256 size41 (by rw [bs_size, zs_length]) hVl ?_))
      have i8 := t8.other (g := w8.heap.size) (by omega) (bs V)
      have i0 := t0.other (g := w8.heap.size) (by omega) (bs V)
      have i9 := t9.set (bs V)
      have hB0 := below_setRow tb tb0.size (bs V)
      have hn8 : ¬ foot gd L' wr.heap.size := fun q => by have := HFL.out _ q; omega
      have hn9 : ¬ foot gd L' w8.heap.size := fun q => by have := HFL.out _ q; have := tb0.size; omega
      clear s8 s0 sb t8 t0 t9 tb0 tb h8
      generalize (w8.alloc (.cells (bs (zs 256)) 41)).setRow w8.heap.size (bs V) = w9 at i8 i0 i9 hB0 ⊢
      generalize w8.heap.size = g9 at i9 hn9 hl8 hl0 ⊢
      obtain ⟨g8, Hg8⟩ : ∃ g, Hid (wr.heap.size = g) := ⟨_, rfl⟩
      have i8 : Row w9 g8 #[.int .u32 c.ep, .int .u32 c.num, .int .u64 c.off, .string c.txt] 164 := by rw [← Hg8.out]; exact i8
      have hn8 : ¬ foot gd L' g8 := by rw [← Hg8.out]; exact hn8
      have eg8 : (Value.pointer (some ⟨wr.heap.size, 0, none⟩)) = .pointer (some ⟨g8, 0, none⟩) := by rw [Hg8.out]
      rw [eg8]
      have hB0 : Below wr.heap.size wr w9.drew := hB0.drew
      have eN : N + 4 * (k + 1) = N + 4 * k + 4 := by omega
      by_cases hE : E = 0
      · have hE' : (E != 0) = false := by simp [hE]
        refine wp_region_held_drew (S := fun w' => Row w' gl #[.pointer (some ⟨gd, 0, none⟩), .int .i64 l.at_, .int .i64 l.size, .int .u32 l.ep, vl, .slice (some a) M cb, .string l.open_, .int .u32 l.next, .bool l.fresh, .int .u64 l.fin, .int .u64 l.dur] 99 ∧ Row w' g8 #[.int .u32 c.ep, .int .u32 c.num, .int .u64 c.off, .string c.txt] 164 ∧ Row w' g9 (bs V) 41) (by kernel_rfl) ⟨i0, i8, i9⟩ fun hS => ?_
        generalize w9.drew = W9 at hS hB0 ⊢
        have hB := hB0
        clear hB0
        refine tkH (i := 0) (v := .pointer (some ⟨gl, 0, none⟩)) rfl (by kernel_rfl) (fun _ _ _ h => h) (Or.inl ⟨by rfl, fun w _ => by go_simp⟩) hS ?_
        try simp only [Act.put, nz0, nz1, nz2, nz3, nz4, nz5]
        refine tkH (i := 1) (v := .pointer (some ⟨gl, 0, none⟩)) rfl (by kernel_rfl) (fun _ _ _ h => h) (Or.inl ⟨by rfl, fun w _ => by go_simp⟩) hS ?_
        try simp only [Act.put, nz0, nz1, nz2, nz3, nz4, nz5]
        refine tkH (i := 2) (v := .pointer (some ⟨gl, 0, none⟩)) rfl (by kernel_rfl) (fun _ _ _ h => h) (Or.inl ⟨by rfl, fun w _ => by go_simp⟩) hS ?_
        try simp only [Act.put, nz0, nz1, nz2, nz3, nz4, nz5]
        refine tkH (i := 3) (v := .pointer (some ⟨gl, 0, none⟩)) rfl (by kernel_rfl) (fun _ _ _ h => h) (Or.inl ⟨by rfl, fun w _ => by go_simp⟩) hS ?_
        try simp only [Act.put, nz0, nz1, nz2, nz3, nz4, nz5]
        refine tkH (i := 4) (v := .pointer (some ⟨gd, 0, none⟩)) rfl (by kernel_rfl) (fun _ _ _ h => h) (Or.inl ⟨by rfl, fun w h => by have c := row_at h.1 0 _ rfl; go_simp⟩) hS ?_
        try simp only [Act.put, nz0, nz1, nz2, nz3, nz4, nz5]
        refine tkH (i := 5) (v := .pointer (some ⟨gl, 0, none⟩)) rfl (by kernel_rfl) (fun _ _ _ h => h) (Or.inl ⟨by rfl, fun w _ => by go_simp⟩) hS ?_
        try simp only [Act.put, nz0, nz1, nz2, nz3, nz4, nz5]
        refine tkH (i := 6) (v := .pointer (some ⟨gl, 0, none⟩)) rfl (by kernel_rfl) (fun _ _ _ h => h) (Or.inl ⟨by rfl, fun w _ => by go_simp⟩) hS ?_
        try simp only [Act.put, nz0, nz1, nz2, nz3, nz4, nz5]
        refine tkH (i := 7) (v := .pointer (some ⟨gl, 0, none⟩)) rfl (by kernel_rfl) (fun _ _ _ h => h) (Or.inl ⟨by rfl, fun w _ => by go_simp⟩) hS ?_
        try simp only [Act.put, nz0, nz1, nz2, nz3, nz4, nz5]
        refine tkH (i := 8) (v := .agg #[.pointer (some ⟨gd, 0, none⟩), .int .i64 l.at_, .int .i64 l.size]) rfl (by kernel_rfl) (fun _ _ _ h => h) (Or.inl ⟨by rfl, fun w h => by have c0 := row_at h.1 0 _ rfl; have c1 := row_at h.1 1 _ rfl; have c2 := row_at h.1 2 _ rfl; go_simp⟩) hS ?_
        try simp only [Act.put, nz0, nz1, nz2, nz3, nz4, nz5]
        refine tkH (i := 9) (v := .pointer (some ⟨g8, 1, none⟩)) rfl (by kernel_rfl) (fun _ _ _ h => h) (Or.inl ⟨by rfl, fun w _ => by go_simp⟩) hS ?_
        try simp only [Act.put, nz0, nz1, nz2, nz3, nz4, nz5]
        refine tkH (i := 10) (v := .int .u32 c.num) rfl (by kernel_rfl) (fun _ _ _ h => h) (Or.inl ⟨by rfl, fun w h => by have c := row_at h.2.1 1 _ rfl; go_simp⟩) hS ?_
        try simp only [Act.put, nz0, nz1, nz2, nz3, nz4, nz5]
        refine tkH (i := 12) (v := .agg (bs V)) rfl (by kernel_rfl) (fun _ _ _ h => h) (yields_row (by rfl) 41 (.tmp 9) rfl g9 rfl 41 (bs V) (fun w h => h.2.2) 256 5 Try.underlying41 size41 hVb) hS ?_
        try simp only [Act.put, nz0, nz1, nz2, nz3, nz4, nz5]
        refine wpAnyH_ready (rs := [11]) (by kernel_rfl) (by simp) ?_
        refine AllReadyH.cons rfl (fun K hK => ?_) AllReadyH.nil
        go_simp
        go_at_call 129
        refine Calls.mono (HPL.out _) ?_
        rintro e w1_11 ⟨rfl, hcb⟩
        have hB := hB.trans (hcb.mono hB.size)
        refine hK.out _ _ (⟨hS.1.below hcb hS.1.lt, hS.2.1.below hcb hS.2.1.lt, hS.2.2.below hcb hS.2.2.lt⟩) fun hS => ?_
        try simp only [Act.put, nz0, nz1, nz2, nz3, nz4, nz5]
        clear hcb
        refine wpAnyH_ready (rs := [13]) (by kernel_rfl) (by simp) ?_
        refine AllReadyH.cons rfl (fun K hK => ?_) AllReadyH.nil
        go_simp
        go_at_call 30
        refine Calls.mono (HWR.out _ hB) ?_
        rintro e w2_13 ⟨rfl, hCr, hOf⟩
        refine hK.out _ _ (⟨hS.1.off hOf hng, hS.2.1.off hOf hn8, hS.2.2.off hOf hn9⟩) fun hS => ?_
        try simp only [Act.put, nz0, nz1, nz2, nz3, nz4, nz5]
        refine tkH (i := 14) (v := .int .i64 E) rfl (by kernel_rfl) (fun _ _ _ h => h) (Or.inl ⟨by rfl, fun w _ => by go_simp⟩) hS ?_
        try simp only [Act.put, nz0, nz1, nz2, nz3, nz4, nz5]
        refine wpAnyH_done (by kernel_rfl) ?_ _
        go_wp2
        go_roundw
        case rel =>
          refine ⟨_, _, _, _, _, _, .int .i64 ((k : Int) + 1), ⟨k + 1, by omega, by simp, ?_, ?_⟩, rfl, rfl, rfl, rfl, rfl, rfl, rfl⟩
          · rw [hSt]; exact hE
          · rw [hSt, eN]; exact hCr
        case measure => simp [intOf]; omega
      · have hE' : (E != 0) = true := by simp [hE]
        have HK : Hid (∀ w', Crashed w gd d2 L (N + 4 * k + 4) w' → PP (.returned (.int .i64 E)) w') := fun w' h => by
          rw [HPP.out]
          have hcut : cs = cs.take (k + 1) ++ cs.drop (k + 1) := (List.take_append_drop _ _).symm
          have e1 : wrS l.at_ l.size cs d = (E, d2) := by
            rw [hcut, wrS_append, hSt, if_neg hE]
          have hne : cs ≠ [] := fun q => by rw [q] at hcl; simp at hcl; omega
          have e2 : layR l.at_ l.size cs d = (E, d2) := by unfold layR; rw [if_neg hne, e1, if_neg hE]
          rw [e2]
          exact ⟨rfl, h.grow (by omega) (by omega)⟩
        clear hE
        refine wp_region_held_drew (S := fun w' => Row w' gl #[.pointer (some ⟨gd, 0, none⟩), .int .i64 l.at_, .int .i64 l.size, .int .u32 l.ep, vl, .slice (some a) M cb, .string l.open_, .int .u32 l.next, .bool l.fresh, .int .u64 l.fin, .int .u64 l.dur] 99 ∧ Row w' g8 #[.int .u32 c.ep, .int .u32 c.num, .int .u64 c.off, .string c.txt] 164 ∧ Row w' g9 (bs V) 41) (by kernel_rfl) ⟨i0, i8, i9⟩ fun hS => ?_
        generalize w9.drew = W9 at hS hB0 ⊢
        have hB := hB0
        clear hB0
        refine tkH (i := 0) (v := .pointer (some ⟨gl, 0, none⟩)) rfl (by kernel_rfl) (fun _ _ _ h => h) (Or.inl ⟨by rfl, fun w _ => by go_simp⟩) hS ?_
        try simp only [Act.put, nz0, nz1, nz2, nz3, nz4, nz5]
        refine tkH (i := 1) (v := .pointer (some ⟨gl, 0, none⟩)) rfl (by kernel_rfl) (fun _ _ _ h => h) (Or.inl ⟨by rfl, fun w _ => by go_simp⟩) hS ?_
        try simp only [Act.put, nz0, nz1, nz2, nz3, nz4, nz5]
        refine tkH (i := 2) (v := .pointer (some ⟨gl, 0, none⟩)) rfl (by kernel_rfl) (fun _ _ _ h => h) (Or.inl ⟨by rfl, fun w _ => by go_simp⟩) hS ?_
        try simp only [Act.put, nz0, nz1, nz2, nz3, nz4, nz5]
        refine tkH (i := 3) (v := .pointer (some ⟨gl, 0, none⟩)) rfl (by kernel_rfl) (fun _ _ _ h => h) (Or.inl ⟨by rfl, fun w _ => by go_simp⟩) hS ?_
        try simp only [Act.put, nz0, nz1, nz2, nz3, nz4, nz5]
        refine tkH (i := 4) (v := .pointer (some ⟨gd, 0, none⟩)) rfl (by kernel_rfl) (fun _ _ _ h => h) (Or.inl ⟨by rfl, fun w h => by have c := row_at h.1 0 _ rfl; go_simp⟩) hS ?_
        try simp only [Act.put, nz0, nz1, nz2, nz3, nz4, nz5]
        refine tkH (i := 5) (v := .pointer (some ⟨gl, 0, none⟩)) rfl (by kernel_rfl) (fun _ _ _ h => h) (Or.inl ⟨by rfl, fun w _ => by go_simp⟩) hS ?_
        try simp only [Act.put, nz0, nz1, nz2, nz3, nz4, nz5]
        refine tkH (i := 6) (v := .pointer (some ⟨gl, 0, none⟩)) rfl (by kernel_rfl) (fun _ _ _ h => h) (Or.inl ⟨by rfl, fun w _ => by go_simp⟩) hS ?_
        try simp only [Act.put, nz0, nz1, nz2, nz3, nz4, nz5]
        refine tkH (i := 7) (v := .pointer (some ⟨gl, 0, none⟩)) rfl (by kernel_rfl) (fun _ _ _ h => h) (Or.inl ⟨by rfl, fun w _ => by go_simp⟩) hS ?_
        try simp only [Act.put, nz0, nz1, nz2, nz3, nz4, nz5]
        refine tkH (i := 8) (v := .agg #[.pointer (some ⟨gd, 0, none⟩), .int .i64 l.at_, .int .i64 l.size]) rfl (by kernel_rfl) (fun _ _ _ h => h) (Or.inl ⟨by rfl, fun w h => by have c0 := row_at h.1 0 _ rfl; have c1 := row_at h.1 1 _ rfl; have c2 := row_at h.1 2 _ rfl; go_simp⟩) hS ?_
        try simp only [Act.put, nz0, nz1, nz2, nz3, nz4, nz5]
        refine tkH (i := 9) (v := .pointer (some ⟨g8, 1, none⟩)) rfl (by kernel_rfl) (fun _ _ _ h => h) (Or.inl ⟨by rfl, fun w _ => by go_simp⟩) hS ?_
        try simp only [Act.put, nz0, nz1, nz2, nz3, nz4, nz5]
        refine tkH (i := 10) (v := .int .u32 c.num) rfl (by kernel_rfl) (fun _ _ _ h => h) (Or.inl ⟨by rfl, fun w h => by have c := row_at h.2.1 1 _ rfl; go_simp⟩) hS ?_
        try simp only [Act.put, nz0, nz1, nz2, nz3, nz4, nz5]
        refine tkH (i := 12) (v := .agg (bs V)) rfl (by kernel_rfl) (fun _ _ _ h => h) (yields_row (by rfl) 41 (.tmp 9) rfl g9 rfl 41 (bs V) (fun w h => h.2.2) 256 5 Try.underlying41 size41 hVb) hS ?_
        try simp only [Act.put, nz0, nz1, nz2, nz3, nz4, nz5]
        refine wpAnyH_ready (rs := [11]) (by kernel_rfl) (by simp) ?_
        refine AllReadyH.cons rfl (fun K hK => ?_) AllReadyH.nil
        go_simp
        go_at_call 129
        refine Calls.mono (HPL.out _) ?_
        rintro e w1_11 ⟨rfl, hcb⟩
        have hB := hB.trans (hcb.mono hB.size)
        refine hK.out _ _ (⟨hS.1.below hcb hS.1.lt, hS.2.1.below hcb hS.2.1.lt, hS.2.2.below hcb hS.2.2.lt⟩) fun hS => ?_
        try simp only [Act.put, nz0, nz1, nz2, nz3, nz4, nz5]
        clear hcb
        refine wpAnyH_ready (rs := [13]) (by kernel_rfl) (by simp) ?_
        refine AllReadyH.cons rfl (fun K hK => ?_) AllReadyH.nil
        go_simp
        go_at_call 30
        refine Calls.mono (HWR.out _ hB) ?_
        rintro e w2_13 ⟨rfl, hCr, hOf⟩
        refine hK.out _ _ (⟨hS.1.off hOf hng, hS.2.1.off hOf hn8, hS.2.2.off hOf hn9⟩) fun hS => ?_
        try simp only [Act.put, nz0, nz1, nz2, nz3, nz4, nz5]
        refine tkH (i := 14) (v := .int .i64 E) rfl (by kernel_rfl) (fun _ _ _ h => h) (Or.inl ⟨by rfl, fun w _ => by go_simp⟩) hS ?_
        try simp only [Act.put, nz0, nz1, nz2, nz3, nz4, nz5]
        refine wpAnyH_done (by kernel_rfl) ?_ _
        go_wp2
        try go_ret
        exact HK.out _ hCr
    · obtain rfl : m = k := by omega
      have hkm' : ¬ (m : Int) < (m : Int) := by omega
      have hct : cs.take m = cs := List.take_of_length_le (by omega)
      rw [hct] at hE0 hD'
      have hops := wrS_ops l.at_ l.size cs d
      rw [hcl] at hops
      have hne : cs ≠ [] := fun q => by rw [q] at hcl; simp at hcl; omega
      have e2 : layR l.at_ l.size cs d = sync (wrS l.at_ l.size cs d).2 := by unfold layR; rw [if_neg hne, if_pos hE0]
      have HSY : Hid _ := Crashed.sync (w := w) (L := L) ⟨L', hD', hO', hF'⟩ (by omega)
      have HK : Hid (∀ w', Crashed w gd (sync (wrS l.at_ l.size cs d).2).2 L (N + 4 * m) w' → PP (.returned (.int .i64 (sync (wrS l.at_ l.size cs d).2).1)) w') := fun w' h => by
        rw [HPP.out, e2]; exact ⟨rfl, h⟩
      generalize sync (wrS l.at_ l.size cs d).2 = sy at HSY HK
      have d0 := row_at b0 0 _ rfl
      clear hE0 hD' hO' hF' e2 bo
      go_wp2_with (first
        | (go_at_call 89; refine Calls.mono HSY.out ?_; clear HSY; rintro e w10 ⟨rfl, h10⟩))
      try go_ret
      exact HK.out _ h10
def Lg.sealN (l : Lg) : Nat → Lg
  | 0 => l
  | k + 1 => (l.sealN k).seal 214
def wantN (b : Int) : Int := (b + 213) / 214
def Lg.more (l : Lg) (F : ByteArray) : Lg := { l with open_ := l.open_ ++ F, fin := l.fin + F.size }
def LgAt (w : World) (gl : Nat) (pd vl vs : Value) (l : Lg) (w' : World) : Prop :=
  ∃ vs', Row w' gl (lcells pd vl vs' l) 99 ∧ Ck.Own w' (gl + 1) vs' l.sealed ∧ Off (fun j => j = gl ∨ vs.ownBlock = some j) w w' ∧ (∀ j, vs'.ownBlock = some j → vs.ownBlock = some j ∨ w.heap.size ≤ j)
theorem LgAt.sealed {w wr : World} {gl : Nat} {pd vl vs : Value} {l : Lg} (h : LgAt w gl pd vl vs l wr) (N : Nat) (hN : N ≤ l.open_.size) (hs : l.sealed.length ≤ 900) (hf : (l.open_.size : Int) ≤ l.fin ∧ l.fin ≤ 18446744073709551615) (hx : 0 ≤ l.next ∧ l.next ≤ 4294967295) (hsz : l.open_.size ≤ 1000000000) :
    Calls Try.prog 52 #[.pointer (some ⟨gl, 0, none⟩), .int .i64 N] wr fun e w' => e = .returned (.tuple #[]) ∧ LgAt w gl pd vl vs (l.seal N) w' := by
  obtain ⟨vs', h1, h2, h3, h4⟩ := h
  refine (seal_any wr gl pd vl vs' l N h1 h2 hN hs hf hx hsz).mono ?_
  rintro e w' ⟨rfl, vs2, k1, k2, k3, k4⟩
  refine ⟨rfl, vs2, k1, k2, h3.trans k3 (fun j q => ?_), fun j q => ?_⟩
  · rcases q with q | q
    · exact Or.inl (Or.inl q)
    · rcases h4 j q with q | q
      · exact Or.inl (Or.inr q)
      · exact Or.inr q
  · rcases k4 j q with q | q
    · exact h4 j q
    · exact Or.inr (Nat.le_trans h3.size q)
theorem OwnCk.nil (w : World) (base : Nat) : Ck.Own w base (.slice none 0 0) [] := ⟨rfl, Or.inl ⟨rfl, rfl⟩⟩

theorem dur_any (gl : Nat) (pd vl vs : Value) (l : Lg) (w : World) (hr : Row w gl (lcells pd vl vs l) 99) : Calls Try.prog 13 #[.pointer (some ⟨gl, 0, none⟩)] w fun e w' => e = .returned (.int .u64 l.dur) ∧ Below w.heap.size w w' := by
  have c := row_at hr 10 _ rfl
  clear hr
  go_enter Try.func13, Try.ntmps13
  go_wp2
  go_ret
  exact ⟨rfl, Below.refl _ _⟩
theorem OwnU.at {w : World} {base : Nat} {v : Value} {xs : List Int} (h : OwnU w base v xs) (k : Nat) (x : Int) (hk : xs[k]? = some x) : ∃ g cap, v = .slice (some ⟨g, 0, none⟩) xs.length cap ∧ w.cell? ⟨g, k, none⟩ = some (.int .u64 x) := by
  have hc := fun g hg => World.ownsRow.cells h (g := g) hg
  rcases h.2 with ⟨rfl, h2⟩ | ⟨g, cap, cur, rfl, _⟩
  · rw [List.eq_nil_of_length_eq_zero h2] at hk; simp at hk
  · have hq := hc g rfl k (.int .u64 x) (by rw [List.getElem?_map, hk]; rfl)
    rw [Addr.add_mid, Nat.zero_add] at hq
    exact ⟨g, cap, rfl, hq⟩
theorem info25u : (Try.prog.info? 37).map (fun i => (i.zero, i.size, i.bytes)) = some (some (.int .u64 0), 1, 8) := by kernel_rfl
theorem OwnU.off {F : Nat → Prop} {w w' : World} {base : Nat} {v : Value} {xs : List Int} (h : OwnU w base v xs) (ho : Off F w w') (hF : ∀ j, v.ownBlock = some j → ¬ F j) : OwnU w' base v xs := by
  have hl := World.ownsRow.lt h
  obtain ⟨h1, h2⟩ := h
  refine ⟨h1, ?_⟩
  rcases h2 with h2 | ⟨g, cap, cur, rfl, hb', hc, rest⟩
  · exact Or.inl h2
  · exact Or.inr ⟨g, cap, cur, rfl, hb', (ho.block g (hl g rfl).2 (hF g rfl)).trans hc, rest⟩
theorem OwnU.snocQ {w : World} {base : Nat} {v : Value} {xs : List Int} (h : OwnU w base v xs) (ty : TypeId) (X : Nat) (x : Int) (hX : Row w X #[.int .u64 x] 37) (hb : base ≤ w.heap.size) (hn : xs.length ≤ 1000000) :
    ∃ v' w', (Builtin.append_ #[96, 96] ty #[v, .slice (some ⟨X, 0, none⟩) 1 1]).run Try.prog w = .ok v' w' ∧ (OwnU w' base v' (xs ++ [x]) ∧ w.grownBy w' v.ownBlock ∧ (v'.ownBlock = v.ownBlock ∨ v'.ownBlock = some w.heap.size)) := by
  obtain ⟨i, hi, hz, hs, hby⟩ := Ck.info_parts info25u
  obtain ⟨v', w', hr, h2, h3, h4, h5⟩ := run_append_own_at (P := Try.prog) w base 96 ty 37 i _ 1 8 Try.underlying96 hi hz hs hby rfl (by decide) v xs.length (xs.map (Value.int .u64)) h ⟨X, 0, none⟩ 1 1 [.int .u64 x] rfl (fun j u hj => by rw [Addr.add_mid, Nat.zero_add, cell_of_row w X j _ _ _ hX, ← hj, List.getElem?_toArray]) (fun u hu => by simp at hu; subst hu; rfl) (by unfold maxLen; omega) (by omega) hb
  refine ⟨v', w', hr, ?_, h3, h5⟩
  unfold OwnU
  rw [List.map_append, List.length_append]
  exact h2
theorem own_apartU {w : World} {b b' g : Nat} {v v' : Value} {xs : List Int} {os : List Ck.O} (h : OwnU w b v xs) (h' : Ck.Own w b' v' os) (hb : v.ownBlock = some g) (hb' : v'.ownBlock = some g) : False := by
  rcases h.2 with ⟨rfl, _⟩ | ⟨g1, cap, cur, rfl, _, hc, _⟩
  · cases hb
  · cases hb
    rcases h'.2 with ⟨rfl, _⟩ | ⟨g2, cap2, cur2, rfl, _, hc2, _⟩
    · cases hb'
    · cases hb'
      rw [hc] at hc2
      simp at hc2
structure LD (w : World) (gl gd : Nat) (vl vs : Value) (L : Loc) (l : Lg) (d : Dsk) (N : Nat) : Prop where
  row : Row w gl (lcells (.pointer (some ⟨gd, 0, none⟩)) vl vs l) 99
  last : OwnU w (gl + 1) vl l.last
  sld : Ck.Own w (gl + 1) vs l.sealed
  dsk : DAt w gd d L N
  ng : ¬ foot gd L gl
  nl : ∀ j, vl.ownBlock = some j → ¬ foot gd L j
  ns : ∀ j, vs.ownBlock = some j → ¬ foot gd L j
def lfoot (gl gd : Nat) (vl vs : Value) (L : Loc) (j : Nat) : Prop := j = gl ∨ vl.ownBlock = some j ∨ vs.ownBlock = some j ∨ foot gd L j
def LStep (w : World) (gl gd : Nat) (F : Nat → Prop) (l : Lg) (d : Dsk) (N : Nat) (w' : World) : Prop :=
  ∃ vl vs L, LD w' gl gd vl vs L l d N ∧ Off F w w' ∧ ∀ j, lfoot gl gd vl vs L j → F j ∨ w.heap.size ≤ j
theorem LD.lt {w : World} {gl gd : Nat} {vl vs : Value} {L : Loc} {l : Lg} {d : Dsk} {N : Nat} (h : LD w gl gd vl vs L l d N) {j : Nat} (hj : lfoot gl gd vl vs L j) : j < w.heap.size := by
  rcases hj with rfl | q | q | q
  · exact h.row.lt
  · exact (World.ownsRow.lt h.last j q).2
  · exact (World.ownsRow.lt h.sld j q).2
  · exact h.dsk.lt q
theorem LD.off {F : Nat → Prop} {w w' : World} {gl gd : Nat} {vl vs : Value} {L : Loc} {l : Lg} {d : Dsk} {N : Nat} (h : LD w gl gd vl vs L l d N) (ho : Off F w w') (hF : ∀ j, lfoot gl gd vl vs L j → ¬ F j) : LD w' gl gd vl vs L l d N :=
  ⟨h.row.off ho (hF _ (Or.inl rfl)), h.last.off ho (fun j q => hF j (Or.inr (Or.inl q))), h.sld.off ho (fun j q => hF j (Or.inr (Or.inr (Or.inl q)))), h.dsk.off ho (fun j q => hF j (Or.inr (Or.inr (Or.inr q)))), h.ng, h.nl, h.ns⟩
theorem LD.below {w w' : World} {gl gd : Nat} {vl vs : Value} {L : Loc} {l : Lg} {d : Dsk} {N : Nat} (h : LD w gl gd vl vs L l d N) (hb : Below w.heap.size w w') : LD w' gl gd vl vs L l d N :=
  h.off (Off.of_below (F := fun _ => False) hb) (fun _ _ q => q)
theorem LStep.refl {w : World} {gl gd : Nat} {vl vs : Value} {L : Loc} {l : Lg} {d : Dsk} {N : Nat} (h : LD w gl gd vl vs L l d N) : LStep w gl gd (lfoot gl gd vl vs L) l d N w := ⟨vl, vs, L, h, Off.refl _ _, fun _ q => Or.inl q⟩
theorem LStep.below {w wa wb : World} {gl gd : Nat} {F : Nat → Prop} {l : Lg} {d : Dsk} {N : Nat} (h : LStep w gl gd F l d N wa) (hb : Below wa.heap.size wa wb) : LStep w gl gd F l d N wb := by
  obtain ⟨vl, vs, L, h1, h2, h3⟩ := h
  exact ⟨vl, vs, L, h1.below hb, h2.trans (Off.of_below (F := fun _ => False) hb) (fun _ q => q.elim), h3⟩
theorem LStep.grow {w wa : World} {gl gd : Nat} {F : Nat → Prop} {l : Lg} {d : Dsk} {N M : Nat} (h : LStep w gl gd F l d N wa) (hm : N ≤ M) (hM : M < 1000000000000) : LStep w gl gd F l d M wa := by
  obtain ⟨vl, vs, L, h1, h2, h3⟩ := h
  exact ⟨vl, vs, L, ⟨h1.row, h1.last, h1.sld, h1.dsk.grow hm hM, h1.ng, h1.nl, h1.ns⟩, h2, h3⟩
theorem LStep.seal {w wr : World} {gl gd : Nat} {F : Nat → Prop} {l : Lg} {d : Dsk} {M : Nat} (h : LStep w gl gd F l d M wr) (N : Nat) (hN : N ≤ l.open_.size) (hs : l.sealed.length ≤ 900) (hf : (l.open_.size : Int) ≤ l.fin ∧ l.fin ≤ 18446744073709551615) (hx : 0 ≤ l.next ∧ l.next ≤ 4294967295) (hsz : l.open_.size ≤ 1000000000) :
    Calls Try.prog 52 #[.pointer (some ⟨gl, 0, none⟩), .int .i64 N] wr fun e w' => e = .returned (.tuple #[]) ∧ LStep w gl gd F (l.seal N) d M w' := by
  obtain ⟨vl, vs, L, h1, h2, h3⟩ := h
  refine (seal_any wr gl _ vl vs l N h1.row h1.sld hN hs hf hx hsz).mono ?_
  rintro e w' ⟨rfl, vs2, k1, k2, k3, k4⟩
  have hnew : ∀ j, vs2.ownBlock = some j → vs.ownBlock = some j ∨ wr.heap.size ≤ j := k4
  refine ⟨rfl, vl, vs2, L, ⟨k1, h1.last.off k3 (fun j q => ?_), k2, h1.dsk.off k3 (fun j q => ?_), h1.ng, h1.nl, fun j q q2 => ?_⟩, h2.trans k3 (fun j q => ?_), fun j q => ?_⟩
  · rintro (q2 | q2)
    · have := (World.ownsRow.lt h1.last j q).1; omega
    · exact own_apartU h1.last h1.sld q q2
  · rintro (q2 | q2)
    · subst q2; exact h1.ng q
    · exact h1.ns j q2 q
  · rcases hnew j q with q3 | q3
    · exact h1.ns j q3 q2
    · have := h1.dsk.lt q2; omega
  · rcases q with q | q
    · exact h3 j (Or.inl q)
    · exact h3 j (Or.inr (Or.inr (Or.inl q)))
  · rcases q with q | q | q | q
    · exact h3 j (Or.inl q)
    · exact h3 j (Or.inr (Or.inl q))
    · rcases hnew j q with q3 | q3
      · exact h3 j (Or.inr (Or.inr (Or.inl q3)))
      · have := h2.size; exact Or.inr (by omega)
    · exact h3 j (Or.inr (Or.inr (Or.inr q)))
theorem LStep.lay {w wr : World} {gl gd : Nat} {F : Nat → Prop} {l : Lg} {d : Dsk} {M : Nat} (h : LStep w gl gd F l d M wr) (f t : Nat) (hok : ∀ c ∈ l.sealed, c.Ok) (hf : f ≤ t) (ht : t ≤ l.sealed.length) (hs : l.sealed.length ≤ 100000) (ha : 0 ≤ l.at_ ∧ l.at_ ≤ 4294967295) (hz : 1 ≤ l.size ∧ l.size ≤ 4294967295) (hop : d.ops + l.sealed.length + 2 < 9223372036854775806) (hN : M + 4 * l.sealed.length + 4 < 1000000000000) :
    Calls Try.prog 127 #[.pointer (some ⟨gl, 0, none⟩), .int .i64 f, .int .i64 t] wr fun e w' => e = .returned (.int .i64 (layR l.at_ l.size ((l.sealed.drop f).take (t - f)) d).1) ∧ LStep w gl gd F l (layR l.at_ l.size ((l.sealed.drop f).take (t - f)) d).2 (M + 4 * (t - f)) w' := by
  obtain ⟨vl, vs, L, h1, h2, h3⟩ := h
  refine (lay_any wr gl gd vl vs l d L M f t h1.row h1.sld h1.dsk h1.ng h1.ns hok hf ht hs ha hz hop hN).mono ?_
  rintro e w' ⟨rfl, L2, k1, k2, k3⟩
  refine ⟨rfl, vl, vs, L2, ⟨h1.row.off k2 h1.ng, h1.last.off k2 h1.nl, h1.sld.off k2 h1.ns, k1, fun q => ?_, fun j q q2 => ?_, fun j q q2 => ?_⟩, h2.trans k2 (fun j q => h3 j (Or.inr (Or.inr (Or.inr q)))), fun j q => ?_⟩
  · rcases k3 gl q with q | q
    · exact h1.ng q
    · have := h1.row.lt; omega
  · rcases k3 j q2 with q3 | q3
    · exact h1.nl j q q3
    · have := (World.ownsRow.lt h1.last j q).2; omega
  · rcases k3 j q2 with q3 | q3
    · exact h1.ns j q q3
    · have := (World.ownsRow.lt h1.sld j q).2; omega
  · rcases q with q | q | q | q
    · exact h3 j (Or.inl q)
    · exact h3 j (Or.inr (Or.inl q))
    · exact h3 j (Or.inr (Or.inr (Or.inl q)))
    · rcases k3 j q with q3 | q3
      · exact h3 j (Or.inr (Or.inr (Or.inr q3)))
      · have := h2.size; exact Or.inr (by omega)
theorem LStep.set {w wr : World} {gl gd : Nat} {F : Nat → Prop} {l l2 : Lg} {d : Dsk} {M : Nat} {vl vs : Value} {L : Loc} (h1 : LD wr gl gd vl vs L l d M) (h2 : Off F w wr) (h3 : ∀ j, lfoot gl gd vl vs L j → F j ∨ w.heap.size ≤ j) (k : Nat) (v : Value) (vs2 : Value)
    (hr : Row (wr.setCell ⟨gl, k, none⟩ v) gl (lcells (.pointer (some ⟨gd, 0, none⟩)) vl vs2 l2) 99) (hl : l2.last = l.last) (hs : (vs2 = vs ∧ l2.sealed = l.sealed) ∨ (vs2 = .slice none 0 0 ∧ l2.sealed = [])) : LD (wr.setCell ⟨gl, k, none⟩ v) gl gd vl vs2 L l2 d M ∧ Off F w (wr.setCell ⟨gl, k, none⟩ v) ∧ ∀ j, lfoot gl gd vl vs2 L j → F j ∨ w.heap.size ≤ j := by
  have O : Off (· = gl) wr (wr.setCell ⟨gl, k, none⟩ v) := Off.of_setCell wr ⟨gl, k, none⟩ v rfl
  have e1 : OwnU (wr.setCell ⟨gl, k, none⟩ v) (gl + 1) vl l2.last := by rw [hl]; exact h1.last.off O (fun j q q2 => by have := (World.ownsRow.lt h1.last j q).1; omega)
  have e2 : DAt (wr.setCell ⟨gl, k, none⟩ v) gd d L M := h1.dsk.off O (fun j q q2 => by subst q2; exact h1.ng q)
  have e3 : Off F w (wr.setCell ⟨gl, k, none⟩ v) := h2.trans O (fun j q => by subst q; exact h3 _ (Or.inl rfl))
  rcases hs with ⟨rfl, hs⟩ | ⟨rfl, hs⟩
  · exact ⟨⟨hr, e1, by rw [hs]; exact h1.sld.off O (fun j q q2 => by have := (World.ownsRow.lt h1.sld j q).1; omega), e2, h1.ng, h1.nl, h1.ns⟩, e3, h3⟩
  · refine ⟨⟨hr, e1, by rw [hs]; exact OwnCk.nil _ _, e2, h1.ng, h1.nl, fun j q => by cases q⟩, e3, fun j q => ?_⟩
    rcases q with q | q | q | q
    · exact h3 j (Or.inl q)
    · exact h3 j (Or.inr (Or.inl q))
    · cases q
    · exact h3 j (Or.inr (Or.inr (Or.inr q)))
def Lg.closed (l : Lg) : Lg := if l.open_.size = 0 then l else l.seal l.open_.size
def Lg.flushed (l : Lg) : Lg := { l with last := l.last ++ l.sealed.map (·.off), sealed := [], dur := l.fin }
def restR (l : Lg) (f : Nat) (d : Dsk) : Int × Lg × Dsk :=
  if (layR l.at_ l.size (l.sealed.drop f) d).1 = 0 then (0, l.flushed, (layR l.at_ l.size (l.sealed.drop f) d).2) else ((layR l.at_ l.size (l.sealed.drop f) d).1, l, (layR l.at_ l.size (l.sealed.drop f) d).2)
def flushC (l : Lg) (d : Dsk) : Int × Lg × Dsk :=
  if l.fresh = true ∧ l.sealed ≠ [] then
    if (layR l.at_ l.size (l.sealed.take 1) d).1 = 0 then restR { l with fresh := false } 1 (layR l.at_ l.size (l.sealed.take 1) d).2 else ((layR l.at_ l.size (l.sealed.take 1) d).1, l, (layR l.at_ l.size (l.sealed.take 1) d).2)
  else restR l 0 d
def flushR (l : Lg) (d : Dsk) : Int × Lg × Dsk := flushC l.closed d
theorem count_ops1 (d : Dsk) : (count d).2.ops ≤ d.ops + 1 := by
  unfold count; split
  · simp
  · split <;> simp
end Go.Proofs.Ytehogiondcpbcaa
