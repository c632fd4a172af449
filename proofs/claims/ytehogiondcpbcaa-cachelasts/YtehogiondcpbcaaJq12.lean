/-
  Proved here: log.lay: sealed blocks are written, one behind the other, and synced.
-/
import Derived.Test.YtehogiondcpbcaaJq11
namespace Go.Proofs.Ytehogiondcpbcaa
open Go.ChangeShapes Go.WideShapes Go.ChangeAt Go.RowKit
set_option linter.unusedVariables false
set_option linter.unusedSimpArgs false
set_option maxRecDepth 20000
theorem Ck.Own.off {F : Nat → Prop} {w w' : World} {base : Nat} {v : Value} {os : List Ck.O} (h : Ck.Own w base v os) (ho : Off F w w') (hF : ∀ j, v.ownBlock = some j → ¬ F j) : Ck.Own w' base v os := by
  have hl := World.ownsRow.lt h
  obtain ⟨h1, h2⟩ := h
  refine ⟨h1, ?_⟩
  rcases h2 with h2 | ⟨g, cap, cur, rfl, hb', hc, rest⟩
  · exact Or.inl h2
  · exact Or.inr ⟨g, cap, cur, rfl, hb', (ho.block g (hl g rfl).2 (hF g rfl)).trans hc, rest⟩
theorem load_any_g {P : Program} {ops : Array Oper} {rest : List Oper} {op : Oper} {a : Act} {w : World} {Q : Exit → Act → World → Prop} (hgd : Region.wanted op (yielded ops a.tmps) = true) (ty : TypeId) (x : Operand) (ho : op.op = .load ty x)
    (p : Addr) (hx : a.eval x = .pointer (some p)) (cs : List Value) (d : TypeDesc) (hc : ∀ j v, cs[j]? = some v → w.cell? (p.add j) = some v)
    (hu : P.underlying ty = some d) (hd : d.isRow = true) (hi : (P.info? ty).map (·.size) = some cs.length)
    (h : wpList P ops Q rest (a.put op.dst (.agg cs.toArray)) w) : wpList P ops Q (op :: rest) a w := by
  refine BigFrame.wpList_want hgd fun K hK => ?_
  have hl : (loadCells p cs.length).run P w = .ok cs.toArray w := run_loadCells_list (P := P) w p cs hc
  have hrun : (loadVar ty p).run P w = .ok (.agg cs.toArray) w := by
    cases hq : P.info? ty with
    | none => simp [hq] at hi
    | some i =>
      have hs : i.size = cs.length := by simpa [hq] using hi
      have hagg : (isAgg ty).run P w = .ok true w := by
        unfold isAgg
        rw [Sem.run_bind, run_underlying hu w]
        cases d <;> simp_all
      simp [loadVar, Sem.run_bind, hagg, sizeOf, typeInfo, hq, hs, hl]
  unfold Oper.wp execOp
  simp only [ho, hx, Instr.loadAt, Instr.sureAddr, Sem.run_bind, Sem.run_pure, Result.andThen_ok, hrun]
  exact hK _ _ h
structure Ck.O.Ok (c : Ck.O) : Prop where
  ep : 0 ≤ c.ep ∧ c.ep ≤ 4294967295
  num : 0 ≤ c.num ∧ c.num ≤ 4294967295
  off : 0 ≤ c.off ∧ c.off ≤ 18446744073709551615
  txt : okC c.txt = true
def blkC (c : Ck.O) : List Int := packB c.ep c.num c.off (nums c.txt)
theorem blkC_length (c : Ck.O) : (blkC c).length = 256 := packB_length _ _ _ _
theorem blkC_bytes (c : Ck.O) : Bytes (blkC c) := packB_bytes _ _ _ _ (nums_bytes _)
def wrS (a z : Int) : List Ck.O → Dsk → Int × Dsk
  | [], d => (0, d)
  | c :: cs, d => if (writ d (placeV a z c.num) (blkC c)).1 = 0 then wrS a z cs (writ d (placeV a z c.num) (blkC c)).2 else writ d (placeV a z c.num) (blkC c)
theorem wrS_nil (a z : Int) (d : Dsk) : wrS a z [] d = (0, d) := rfl
theorem wrS_cons (a z : Int) (c : Ck.O) (cs : List Ck.O) (d : Dsk) : wrS a z (c :: cs) d = if (writ d (placeV a z c.num) (blkC c)).1 = 0 then wrS a z cs (writ d (placeV a z c.num) (blkC c)).2 else writ d (placeV a z c.num) (blkC c) := rfl
theorem wrS_one (a z : Int) (c : Ck.O) (d : Dsk) : wrS a z [c] d = writ d (placeV a z c.num) (blkC c) := by
  rw [wrS_cons, wrS_nil]
  by_cases h : (writ d (placeV a z c.num) (blkC c)).1 = 0
  · rw [if_pos h]; exact Prod.ext h.symm rfl
  · rw [if_neg h]
theorem wrS_append (a z : Int) (l2 : List Ck.O) : ∀ (l1 : List Ck.O) (d : Dsk), wrS a z (l1 ++ l2) d = if (wrS a z l1 d).1 = 0 then wrS a z l2 (wrS a z l1 d).2 else wrS a z l1 d
  | [], d => by rw [List.nil_append, wrS_nil]; rfl
  | c :: l1, d => by
    rw [List.cons_append, wrS_cons, wrS_cons]
    by_cases h : (writ d (placeV a z c.num) (blkC c)).1 = 0
    · simp only [if_pos h]; exact wrS_append a z l2 l1 _
    · simp only [if_neg h]
def layR (a z : Int) (cs : List Ck.O) (d : Dsk) : Int × Dsk := if cs = [] then (0, d) else if (wrS a z cs d).1 = 0 then sync (wrS a z cs d).2 else wrS a z cs d
theorem writ_ops1 (d : Dsk) (b : Int) (x : List Int) : (writ d b x).2.ops ≤ d.ops + 1 := by
  have ha : (ask d b).2.ops ≤ d.ops + 1 := by
    unfold ask
    split
    · simp; omega
    · split
      · unfold count; split
        · simp
        · split <;> simp
      · simp; omega
  unfold writ
  split
  · show ((ask d b).2.wrote b x 4).ops ≤ _
    rw [(wrote_ops _ _ _).1]; exact ha
  · exact ha
theorem wrS_ops (a z : Int) : ∀ (cs : List Ck.O) (d : Dsk), (wrS a z cs d).2.ops ≤ d.ops + cs.length
  | [], d => by simp [wrS]
  | c :: cs, d => by
    have h := writ_ops1 d (placeV a z c.num) (blkC c)
    unfold wrS
    split
    · have := wrS_ops a z cs (writ d (placeV a z c.num) (blkC c)).2
      simp; omega
    · simp; omega
theorem Crashed.below {w wa wb : World} {g : Nat} {d : Dsk} {L : Loc} {N : Nat} (h : Crashed w g d L N wa) (hb : Below wa.heap.size wa wb) : Crashed w g d L N wb := by
  obtain ⟨L', h1, h2, h3⟩ := h
  exact ⟨L', h1.below hb, h2.trans (Off.of_below (F := fun _ => False) hb) (fun _ q => q.elim), h3⟩
theorem Crashed.write {w wa : World} {g : Nat} {d : Dsk} {L L' : Loc} {N : Nat} (h1 : DAt wa g d L' N) (h2 : Off (foot g L) w wa) (h3 : ∀ j, foot g L' j → foot g L j ∨ w.heap.size ≤ j) (ho : d.ops < 9223372036854775806) (b : Int) (x : List Int) (hx : x.length = 256) (xb : Bytes x) (hN : N + 4 < 1000000000000) :
    Calls Try.prog 30 #[.pointer (some ⟨g, 0, none⟩), .int .i64 b, .agg (bs x)] wa fun e w' => e = .returned (.int .i64 (writ d b x).1) ∧ Crashed w g (writ d b x).2 L (N + 4) w' ∧ Off (foot g L') wa w' := by
  refine (write_any h1 ho b x hx xb hN).mono ?_
  rintro e w' ⟨rfl, L2, k1, k2, k3⟩
  refine ⟨rfl, ⟨L2, k1, h2.trans k2 h3, fun j hj => ?_⟩, k2⟩
  rcases k3 j hj with q | q
  · exact h3 j q
  · exact Or.inr (Nat.le_trans h2.size q)
theorem Crashed.grow {w wa : World} {g : Nat} {d : Dsk} {L : Loc} {N M : Nat} (h : Crashed w g d L N wa) (hm : N ≤ M) (hM : M < 1000000000000) : Crashed w g d L M wa := by
  obtain ⟨L', h1, h2, h3⟩ := h
  exact ⟨L', h1.grow hm hM, h2, h3⟩
theorem Crashed.sync {w wa : World} {g : Nat} {d : Dsk} {L : Loc} {N : Nat} (h : Crashed w g d L N wa) (ho : d.ops < 9223372036854775806) :
    Calls Try.prog 89 #[.pointer (some ⟨g, 0, none⟩)] wa fun e w' => e = .returned (.int .i64 (sync d).1) ∧ Crashed w g (sync d).2 L N w' := by
  obtain ⟨L', h1, h2, h3⟩ := h
  refine (sync_any h1 ho).mono ?_
  rintro e w' ⟨rfl, L2, k1, k2, k3⟩
  refine ⟨rfl, L2, k1, h2.trans k2 h3, fun j hj => ?_⟩
  rcases k3 j hj with q | q
  · exact h3 j q
  · exact Or.inr (Nat.le_trans h2.size q)
set_option maxHeartbeats 8000000 in
theorem lay_any (w : World) (gl gd : Nat) (vl vs : Value) (l : Lg) (d : Dsk) (L : Loc) (N f t : Nat) (hr : Row w gl (lcells (.pointer (some ⟨gd, 0, none⟩)) vl vs l) 99) (ho : Ck.Own w (gl + 1) vs l.sealed) (hD : DAt w gd d L N) (hfg : ¬ foot gd L gl) (hfv : ∀ j, vs.ownBlock = some j → ¬ foot gd L j)
    (hok : ∀ c ∈ l.sealed, c.Ok) (hf : f ≤ t) (ht : t ≤ l.sealed.length) (hs : l.sealed.length ≤ 100000) (ha : 0 ≤ l.at_ ∧ l.at_ ≤ 4294967295) (hz : 1 ≤ l.size ∧ l.size ≤ 4294967295) (hop : d.ops + l.sealed.length + 2 < 9223372036854775806) (hN : N + 4 * l.sealed.length + 4 < 1000000000000) :
    Calls Try.prog 127 #[.pointer (some ⟨gl, 0, none⟩), .int .i64 f, .int .i64 t] w fun e w' => e = .returned (.int .i64 (layR l.at_ l.size ((l.sealed.drop f).take (t - f)) d).1) ∧ Crashed w gd (layR l.at_ l.size ((l.sealed.drop f).take (t - f)) d).2 L (N + 4 * (t - f)) w' := by
  obtain ⟨cs, HCS⟩ : ∃ x, Hid ((l.sealed.drop f).take (t - f) = x) := ⟨_, rfl⟩
  rw [HCS.out]
  have hcl : cs.length = t - f := by rw [← HCS.out, List.length_take, List.length_drop]; omega
  have hcat : ∀ k, k < t - f → cs[k]? = l.sealed[f + k]? := fun k hk => by rw [← HCS.out, List.getElem?_take, if_pos hk, List.getElem?_drop]
  obtain ⟨PP, HPP⟩ : ∃ PP : Ending → World → Prop, Hid (PP = fun e w' => e = .returned (.int .i64 (layR l.at_ l.size cs d).1) ∧ Crashed w gd (layR l.at_ l.size cs d).2 L (N + 4 * (t - f)) w') := ⟨_, rfl⟩
  rw [← HPP.out]
  obtain ⟨ob, cb, hv⟩ := ho.form
  subst hv
  obtain ⟨M, HM⟩ : ∃ M, Hid (l.sealed.length = M) := ⟨_, rfl⟩
  rw [HM.out] at hr ho hfv ht hs hop hN
  unfold lcells at hr
  have hz1 := zero41
  have hz2 := zero164
  by_cases hft : f = t
  · have HK : Hid (PP (.returned (.int .i64 0)) w) := by
      show PP _ _
      rw [HPP.out]
      have hc0 : cs = [] := List.eq_nil_of_length_eq_zero (by omega)
      have e0 : layR l.at_ l.size cs d = (0, d) := by unfold layR; rw [if_pos hc0]
      rw [e0]
      exact ⟨rfl, L, hD.grow (by omega) (by omega), Off.refl _ _, fun j hj => Or.inl hj⟩
    have hft' : ((f : Int) == (t : Int)) = true := by simp [hft]
    have hft2 : (f : Int) = (t : Int) := by omega
    clear hft hr ho hD
    go_enter Try.func127, Try.ntmps127
    go_wp2
    try go_ret
    exact HK.out
  have hft2 : ¬ (f : Int) = (t : Int) := by omega
  have hwr : IntKind.i64.wrap ((t : Int) - f) = ((t - f : Nat) : Int) := by rw [IntKind.wrap_i64]; omega
  obtain ⟨m, Hm⟩ : ∃ m, Hid (t - f = m) := ⟨_, rfl⟩
  have hm1 : 1 ≤ m := by rw [← Hm.out]; omega
  have hmM : f + m ≤ M := by rw [← Hm.out]; omega
  rw [Hm.out] at hwr hcl hcat HPP
  have HB0 : Hid (Crashed w gd d L (N + 4 * 0) w) := ⟨L, hD, Off.refl _ _, fun j hj => Or.inl hj⟩
  have HROW : Hid (∀ wr, Off (foot gd L) w wr → Row wr gl #[.pointer (some ⟨gd, 0, none⟩), .int .i64 l.at_, .int .i64 l.size, .int .u32 l.ep, vl, .slice ob M cb, .string l.open_, .int .u32 l.next, .bool l.fresh, .int .u64 l.fin, .int .u64 l.dur] 99 ∧ Ck.Own wr (gl + 1) (.slice ob M cb) l.sealed) := fun wr o => ⟨hr.off o hfg, ho.off o hfv⟩
  have HPK : Hid (∀ (c : Ck.O) (w : World), c.Ok → Calls Try.prog 128 #[.agg #[.int .u32 c.ep, .int .u32 c.num, .int .u64 c.off, .string c.txt]] w fun ex w' => ex = .returned (.tuple #[.agg (bs (blkC c)), .int .i64 0]) ∧ Below w.heap.size w w') := fun c w hc => by
    have h1 : okC c.txt = true := hc.txt
    have h2 : 1 ≤ c.txt.size ∧ c.txt.size ≤ 214 := by have h3 := h1; unfold okC at h3; exact of_decide_eq_true h3
    have := pack_any c.ep c.num c.off c.txt w hc.ep hc.num hc.off (by unfold maxLen; omega)
    have e1 : packV c.ep c.num c.off c.txt = blkC c := by unfold packV; rw [h1]; rfl
    have e2 : packE c.txt = 0 := by unfold packE; rw [h1]; rfl
    rw [e1, e2] at this
    exact this
  have hlr := hr.lt
  clear hr ho
  go_enter Try.func127, Try.ntmps127
  go_wp2
  go_loopw [18] (fun i wr => ∃ (k : Nat), k ≤ m ∧ i = .int .i64 k ∧ (wrS l.at_ l.size (cs.take k) d).1 = 0 ∧ Crashed w gd (wrS l.at_ l.size (cs.take k) d).2 L (N + 4 * k) wr) (fun i _ => m - (intOf i).toNat)
  case atStart => exact ⟨0, by omega, rfl, rfl, HB0.out⟩
  case round =>
    clear HB0
    obtain ⟨k, hk, rfl, hE0, hC⟩ := hrel
    obtain ⟨L', hD', hO', hF'⟩ := hC
    obtain ⟨b0, bo⟩ := HROW.out _ hO'
    by_cases hkm : k < m
    · obtain ⟨oa', cap', hv', hcell⟩ := (Ck.Own.olds bo).open
      rw [HM.out] at hv' hcell
      cases hv'
      obtain ⟨a, c, rfl, hc0, hcc⟩ := hcell (f + k) (by omega)
      have hck : cs[k]? = some c := by rw [hcat k hkm]; exact hc0
      have hcOk := hok c (List.mem_of_getElem? hc0)
      have hSt : wrS l.at_ l.size (cs.take (k + 1)) d = writ (wrS l.at_ l.size (cs.take k) d).2 (placeV l.at_ l.size c.num) (blkC c) := by
        rw [List.take_add_one, hck]
        show wrS l.at_ l.size (cs.take k ++ [c]) d = _
        rw [wrS_append, if_pos hE0, wrS_one]
      have hops := wrS_ops l.at_ l.size (cs.take k) d
      have hlk : (cs.take k).length = k := by rw [List.length_take]; omega
      rw [hlk] at hops
      generalize wrS l.at_ l.size (cs.take k) d = rk at hE0 hD' hSt hops
      obtain ⟨E0, dk⟩ := rk
      simp only at hE0 hD' hSt hops
      have HPL : Hid (∀ w, Calls Try.prog 129 #[.agg #[.pointer (some ⟨gd, 0, none⟩), .int .i64 l.at_, .int .i64 l.size], .int .u32 c.num] w fun e w' => e = .returned (.int .i64 (placeV l.at_ l.size c.num)) ∧ Below w.heap.size w w') := fun w => place_any _ _ _ _ w ha hz hcOk.num
      have HWR : Hid (∀ wx, Below wr.heap.size wr wx → Calls Try.prog 30 #[.pointer (some ⟨gd, 0, none⟩), .int .i64 (placeV l.at_ l.size c.num), .agg (bs (blkC c))] wx fun e w' => e = .returned (.int .i64 (writ dk (placeV l.at_ l.size c.num) (blkC c)).1) ∧ Crashed w gd (writ dk (placeV l.at_ l.size c.num) (blkC c)).2 L (N + 4 * k + 4) w' ∧ Off (foot gd L') wx w') := fun wx hb =>
        Crashed.write (hD'.below hb) (hO'.trans (Off.of_below (F := fun _ => False) hb) (fun _ q => q.elim)) hF' (by omega) _ _ (blkC_length c) (blkC_bytes c) (by omega)
      have HPC : Hid _ := fun w => HPK.out c w hcOk
      have HFL : Hid (∀ j, foot gd L' j → j < wr.heap.size) := fun j hj => hD'.lt hj
      have hng : ¬ foot gd L' gl := fun q => (hF' gl q).elim hfg (fun q => by omega)
      have hVl := blkC_length c
      generalize blkC c = V at hSt HWR HPC hVl
      have hVb : (bs V).size = 256 := by rw [bs_size]; exact hVl
      generalize placeV l.at_ l.size c.num = PL at hSt HPL HWR
      generalize writ dk PL V = rw1 at hSt HWR
      obtain ⟨E, d2⟩ := rw1
      have hkm' : (k : Int) < (m : Int) := by omega
      have hidx : IntKind.i64.wrap ((f : Int) + k) = ((f + k : Nat) : Int) := by rw [IntKind.wrap_i64]; omega
      have hix1 : ((f + k : Nat) : Int) < (M : Int) := by omega
      have hix0 : (0 : Int) ≤ ((f + k : Nat) : Int) := by omega
      have tl : Hid (1 = 1) := rfl
      have d5 := row_at b0 5 _ rfl
      have q8 : Row (wr.alloc (.cells #[.int .u32 0, .int .u32 0, .int .u64 0, .string ByteArray.empty] 164)) wr.heap.size #[.int .u32 0, .int .u32 0, .int .u64 0, .string ByteArray.empty] 164 := Row.new _ _ _
      go_upto_region 7 with (first
        | (have hh := tl; clear hh tl; refine load_any_g rfl 164 (.tmp 28) rfl (a.add ((f + k) * 4)) rfl c.cells _ hcc Try.underlying164 rfl Ck.size164 ?_)
        | (refine store_cells rfl 164 (.tmp 8) (.tmp 29) rfl wr.heap.size #[.int .u32 c.ep, .int .u32 c.num, .int .u64 c.off, .string c.txt] rfl rfl 164 _ q8 4 Ck.size164 rfl rfl (by simp [Value.oneCell']) ?_))
      have s8 := q8.set #[.int .u32 c.ep, .int .u32 c.num, .int .u64 c.off, .string c.txt]
      have s0 := (b0.alloc (.cells #[.int .u32 0, .int .u32 0, .int .u64 0, .string ByteArray.empty] 164)).other (g := wr.heap.size) (by have := b0.lt; omega) #[.int .u32 c.ep, .int .u32 c.num, .int .u64 c.off, .string c.txt]
      have sb := below_setRow ((Below.refl wr.heap.size wr).alloc (Nat.le_refl _) (.cells #[.int .u32 0, .int .u32 0, .int .u64 0, .string ByteArray.empty] 164)) (Nat.le_refl _) #[.int .u32 c.ep, .int .u32 c.num, .int .u64 c.off, .string c.txt]
      clear q8 b0 bo d5 hcc hc0 hck
      generalize (wr.alloc (.cells #[.int .u32 0, .int .u32 0, .int .u64 0, .string ByteArray.empty] 164)).setRow wr.heap.size #[.int .u32 c.ep, .int .u32 c.num, .int .u64 c.off, .string c.txt] = w7 at s8 s0 sb ⊢
      go_upto_region 10 with (first
        | (refine load_cells rfl 164 (.tmp 8) rfl wr.heap.size rfl 164 #[.int .u32 c.ep, .int .u32 c.num, .int .u64 c.off, .string c.txt] s8 4 Try.underlying164 rfl Ck.size164 rfl ?_)
        | (go_at_call 128; refine Calls.mono (HPC.out _) ?_; clear HPC; rintro e w8 ⟨rfl, h8⟩
           have t8 := (s8.below h8 s8.lt).alloc (.cells (bs (zs 256)) 41)
           have t0 := (s0.below h8 s0.lt).alloc (.cells (bs (zs 256)) 41)
           have t9 : Row (w8.alloc (.cells (bs (zs 256)) 41)) w8.heap.size (bs (zs 256)) 41 := Row.new _ _ _
           have tb0 := sb.trans (h8.mono sb.size)
           have tb := tb0.alloc tb0.size (.cells (bs (zs 256)) 41)
           have hl8 := (s8.below h8 s8.lt).lt
           have hl0 := (s0.below h8 s0.lt).lt)
        | (refine store_row rfl 41 (.tmp 9) (.tmp 33) rfl w8.heap.size V rfl rfl 41 _ t9 256 size41 (by rw [bs_size, zs_length]) hVl ?_))
      have i8 := t8.other (g := w8.heap.size) (by omega) (bs V)
      have i0 := t0.other (g := w8.heap.size) (by omega) (bs V)
      have i9 := t9.set (bs V)
      have hB0 := below_setRow tb tb0.size (bs V)
      have hn8 : ¬ foot gd L' wr.heap.size := fun q => by have := HFL.out _ q; omega
      have hn9 : ¬ foot gd L' w8.heap.size := fun q => by have := HFL.out _ q; have := tb0.size; omega
      clear s8 s0 sb t8 t0 t9 tb0 tb h8
      generalize (w8.alloc (.cells (bs (zs 256)) 41)).setRow w8.heap.size (bs V) = w9 at i8 i0 i9 hB0 ⊢
      generalize w8.heap.size = g9 at i9 hn9 hl8 hl0 ⊢
      obtain ⟨g8, Hg8⟩ : ∃ g, Hid (wr.heap.size = g) := ⟨_, rfl⟩
      have i8 : Row w9 g8 #[.int .u32 c.ep, .int .u32 c.num, .int .u64 c.off, .string c.txt] 164 := by rw [← Hg8.out]; exact i8
      have hn8 : ¬ foot gd L' g8 := by rw [← Hg8.out]; exact hn8
      have eg8 : (Value.pointer (some ⟨wr.heap.size, 0, none⟩)) = .pointer (some ⟨g8, 0, none⟩) := by rw [Hg8.out]
      rw [eg8]
      have hB0 : Below wr.heap.size wr w9.drew := hB0.drew
      have eN : N + 4 * (k + 1) = N + 4 * k + 4 := by omega
      by_cases hE : E = 0
      · have hE' : (E != 0) = false := by simp [hE]
        refine wp_region_held_drew (S := fun w' => Row w' gl #[.pointer (some ⟨gd, 0, none⟩), .int .i64 l.at_, .int .i64 l.size, .int .u32 l.ep, vl, .slice (some a) M cb, .string l.open_, .int .u32 l.next, .bool l.fresh, .int .u64 l.fin, .int .u64 l.dur] 99 ∧ Row w' g8 #[.int .u32 c.ep, .int .u32 c.num, .int .u64 c.off, .string c.txt] 164 ∧ Row w' g9 (bs V) 41) (by kernel_rfl) ⟨i0, i8, i9⟩ fun hS => ?_
        generalize w9.drew = W9 at hS hB0 ⊢
        have hB := hB0
        clear hB0
        refine tkI (i := 0) (v := .pointer (some ⟨gl, 0, none⟩)) rfl (Or.inl ⟨by rfl, fun w _ => by go_simp⟩) hS ?_
        try simp only [Act.put, nz]
        refine tkI (i := 1) (v := .pointer (some ⟨gl, 0, none⟩)) rfl (Or.inl ⟨by rfl, fun w _ => by go_simp⟩) hS ?_
        try simp only [Act.put, nz]
        refine tkI (i := 2) (v := .pointer (some ⟨gl, 0, none⟩)) rfl (Or.inl ⟨by rfl, fun w _ => by go_simp⟩) hS ?_
        try simp only [Act.put, nz]
        refine tkI (i := 3) (v := .pointer (some ⟨gl, 0, none⟩)) rfl (Or.inl ⟨by rfl, fun w _ => by go_simp⟩) hS ?_
        try simp only [Act.put, nz]
        refine tkI (i := 4) (v := .pointer (some ⟨gd, 0, none⟩)) rfl (Or.inl ⟨by rfl, fun w h => by have c := row_at h.1 0 _ rfl; go_simp⟩) hS ?_
        try simp only [Act.put, nz]
        refine tkI (i := 5) (v := .pointer (some ⟨gl, 0, none⟩)) rfl (Or.inl ⟨by rfl, fun w _ => by go_simp⟩) hS ?_
        try simp only [Act.put, nz]
        refine tkI (i := 6) (v := .pointer (some ⟨gl, 0, none⟩)) rfl (Or.inl ⟨by rfl, fun w _ => by go_simp⟩) hS ?_
        try simp only [Act.put, nz]
        refine tkI (i := 7) (v := .pointer (some ⟨gl, 0, none⟩)) rfl (Or.inl ⟨by rfl, fun w _ => by go_simp⟩) hS ?_
        try simp only [Act.put, nz]
        refine tkI (i := 8) (v := .agg #[.pointer (some ⟨gd, 0, none⟩), .int .i64 l.at_, .int .i64 l.size]) rfl (Or.inl ⟨by rfl, fun w h => by have c0 := row_at h.1 0 _ rfl; have c1 := row_at h.1 1 _ rfl; have c2 := row_at h.1 2 _ rfl; go_simp⟩) hS ?_
        try simp only [Act.put, nz]
        refine tkI (i := 9) (v := .pointer (some ⟨g8, 1, none⟩)) rfl (Or.inl ⟨by rfl, fun w _ => by go_simp⟩) hS ?_
        try simp only [Act.put, nz]
        refine tkI (i := 10) (v := .int .u32 c.num) rfl (Or.inl ⟨by rfl, fun w h => by have c := row_at h.2.1 1 _ rfl; go_simp⟩) hS ?_
        try simp only [Act.put, nz]
        refine tkI (i := 12) (v := .agg (bs V)) rfl (yields_row (by rfl) 41 (.tmp 9) rfl g9 rfl 41 (bs V) (fun w h => h.2.2) 256 5 Try.underlying41 size41 hVb) hS ?_
        try simp only [Act.put, nz]
        refine wpAnyH_ready (rs := [11]) (by kernel_rfl) (by simp) ?_
        refine AllReadyH.cons rfl (fun K hK => ?_) AllReadyH.nil
        go_simp
        go_at_call 129
        refine Calls.mono (HPL.out _) ?_
        rintro e w1_11 ⟨rfl, hcb⟩
        have hB := hB.trans (hcb.mono hB.size)
        refine hK.out _ _ (⟨hS.1.below hcb hS.1.lt, hS.2.1.below hcb hS.2.1.lt, hS.2.2.below hcb hS.2.2.lt⟩) fun hS => ?_
        try simp only [Act.put, nz]
        clear hcb
        refine wpAnyH_ready (rs := [13]) (by kernel_rfl) (by simp) ?_
        refine AllReadyH.cons rfl (fun K hK => ?_) AllReadyH.nil
        go_simp
        go_at_call 30
        refine Calls.mono (HWR.out _ hB) ?_
        rintro e w2_13 ⟨rfl, hCr, hOf⟩
        refine hK.out _ _ (⟨hS.1.off hOf hng, hS.2.1.off hOf hn8, hS.2.2.off hOf hn9⟩) fun hS => ?_
        try simp only [Act.put, nz]
        refine tkI (i := 14) (v := .int .i64 E) rfl (Or.inl ⟨by rfl, fun w _ => by go_simp⟩) hS ?_
        try simp only [Act.put, nz]
        refine wpAnyH_done (by kernel_rfl) ?_ _
        go_wp2
        go_roundw
        case rel =>
          refine ⟨_, _, _, _, _, _, .int .i64 ((k : Int) + 1), ⟨k + 1, by omega, by simp, ?_, ?_⟩, rfl, rfl, rfl, rfl, rfl, rfl, rfl⟩
          · rw [hSt]; exact hE
          · rw [hSt, eN]; exact hCr
        case measure => simp [intOf]; omega
      · have hE' : (E != 0) = true := by simp [hE]
        have HK : Hid (∀ w', Crashed w gd d2 L (N + 4 * k + 4) w' → PP (.returned (.int .i64 E)) w') := fun w' h => by
          rw [HPP.out]
          have hcut : cs = cs.take (k + 1) ++ cs.drop (k + 1) := (List.take_append_drop _ _).symm
          have e1 : wrS l.at_ l.size cs d = (E, d2) := by
            rw [hcut, wrS_append, hSt, if_neg hE]
          have hne : cs ≠ [] := fun q => by rw [q] at hcl; simp at hcl; omega
          have e2 : layR l.at_ l.size cs d = (E, d2) := by unfold layR; rw [if_neg hne, e1, if_neg hE]
          rw [e2]
          exact ⟨rfl, h.grow (by omega) (by omega)⟩
        clear hE
        refine wp_region_held_drew (S := fun w' => Row w' gl #[.pointer (some ⟨gd, 0, none⟩), .int .i64 l.at_, .int .i64 l.size, .int .u32 l.ep, vl, .slice (some a) M cb, .string l.open_, .int .u32 l.next, .bool l.fresh, .int .u64 l.fin, .int .u64 l.dur] 99 ∧ Row w' g8 #[.int .u32 c.ep, .int .u32 c.num, .int .u64 c.off, .string c.txt] 164 ∧ Row w' g9 (bs V) 41) (by kernel_rfl) ⟨i0, i8, i9⟩ fun hS => ?_
        generalize w9.drew = W9 at hS hB0 ⊢
        have hB := hB0
        clear hB0
        refine tkI (i := 0) (v := .pointer (some ⟨gl, 0, none⟩)) rfl (Or.inl ⟨by rfl, fun w _ => by go_simp⟩) hS ?_
        try simp only [Act.put, nz]
        refine tkI (i := 1) (v := .pointer (some ⟨gl, 0, none⟩)) rfl (Or.inl ⟨by rfl, fun w _ => by go_simp⟩) hS ?_
        try simp only [Act.put, nz]
        refine tkI (i := 2) (v := .pointer (some ⟨gl, 0, none⟩)) rfl (Or.inl ⟨by rfl, fun w _ => by go_simp⟩) hS ?_
        try simp only [Act.put, nz]
        refine tkI (i := 3) (v := .pointer (some ⟨gl, 0, none⟩)) rfl (Or.inl ⟨by rfl, fun w _ => by go_simp⟩) hS ?_
        try simp only [Act.put, nz]
        refine tkI (i := 4) (v := .pointer (some ⟨gd, 0, none⟩)) rfl (Or.inl ⟨by rfl, fun w h => by have c := row_at h.1 0 _ rfl; go_simp⟩) hS ?_
        try simp only [Act.put, nz]
        refine tkI (i := 5) (v := .pointer (some ⟨gl, 0, none⟩)) rfl (Or.inl ⟨by rfl, fun w _ => by go_simp⟩) hS ?_
        try simp only [Act.put, nz]
        refine tkI (i := 6) (v := .pointer (some ⟨gl, 0, none⟩)) rfl (Or.inl ⟨by rfl, fun w _ => by go_simp⟩) hS ?_
        try simp only [Act.put, nz]
        refine tkI (i := 7) (v := .pointer (some ⟨gl, 0, none⟩)) rfl (Or.inl ⟨by rfl, fun w _ => by go_simp⟩) hS ?_
        try simp only [Act.put, nz]
        refine tkI (i := 8) (v := .agg #[.pointer (some ⟨gd, 0, none⟩), .int .i64 l.at_, .int .i64 l.size]) rfl (Or.inl ⟨by rfl, fun w h => by have c0 := row_at h.1 0 _ rfl; have c1 := row_at h.1 1 _ rfl; have c2 := row_at h.1 2 _ rfl; go_simp⟩) hS ?_
        try simp only [Act.put, nz]
        refine tkI (i := 9) (v := .pointer (some ⟨g8, 1, none⟩)) rfl (Or.inl ⟨by rfl, fun w _ => by go_simp⟩) hS ?_
        try simp only [Act.put, nz]
        refine tkI (i := 10) (v := .int .u32 c.num) rfl (Or.inl ⟨by rfl, fun w h => by have c := row_at h.2.1 1 _ rfl; go_simp⟩) hS ?_
        try simp only [Act.put, nz]
        refine tkI (i := 12) (v := .agg (bs V)) rfl (yields_row (by rfl) 41 (.tmp 9) rfl g9 rfl 41 (bs V) (fun w h => h.2.2) 256 5 Try.underlying41 size41 hVb) hS ?_
        try simp only [Act.put, nz]
        refine wpAnyH_ready (rs := [11]) (by kernel_rfl) (by simp) ?_
        refine AllReadyH.cons rfl (fun K hK => ?_) AllReadyH.nil
        go_simp
        go_at_call 129
        refine Calls.mono (HPL.out _) ?_
        rintro e w1_11 ⟨rfl, hcb⟩
        have hB := hB.trans (hcb.mono hB.size)
        refine hK.out _ _ (⟨hS.1.below hcb hS.1.lt, hS.2.1.below hcb hS.2.1.lt, hS.2.2.below hcb hS.2.2.lt⟩) fun hS => ?_
        try simp only [Act.put, nz]
        clear hcb
        refine wpAnyH_ready (rs := [13]) (by kernel_rfl) (by simp) ?_
        refine AllReadyH.cons rfl (fun K hK => ?_) AllReadyH.nil
        go_simp
        go_at_call 30
        refine Calls.mono (HWR.out _ hB) ?_
        rintro e w2_13 ⟨rfl, hCr, hOf⟩
        refine hK.out _ _ (⟨hS.1.off hOf hng, hS.2.1.off hOf hn8, hS.2.2.off hOf hn9⟩) fun hS => ?_
        try simp only [Act.put, nz]
        refine tkI (i := 14) (v := .int .i64 E) rfl (Or.inl ⟨by rfl, fun w _ => by go_simp⟩) hS ?_
        try simp only [Act.put, nz]
        refine wpAnyH_done (by kernel_rfl) ?_ _
        go_wp2
        try go_ret
        exact HK.out _ hCr
    · obtain rfl : m = k := by omega
      have hkm' : ¬ (m : Int) < (m : Int) := by omega
      have hct : cs.take m = cs := List.take_of_length_le (by omega)
      rw [hct] at hE0 hD'
      have hops := wrS_ops l.at_ l.size cs d
      rw [hcl] at hops
      have hne : cs ≠ [] := fun q => by rw [q] at hcl; simp at hcl; omega
      have e2 : layR l.at_ l.size cs d = sync (wrS l.at_ l.size cs d).2 := by unfold layR; rw [if_neg hne, if_pos hE0]
      have HSY : Hid _ := Crashed.sync (w := w) (L := L) ⟨L', hD', hO', hF'⟩ (by omega)
      have HK : Hid (∀ w', Crashed w gd (sync (wrS l.at_ l.size cs d).2).2 L (N + 4 * m) w' → PP (.returned (.int .i64 (sync (wrS l.at_ l.size cs d).2).1)) w') := fun w' h => by
        rw [HPP.out, e2]; exact ⟨rfl, h⟩
      generalize sync (wrS l.at_ l.size cs d).2 = sy at HSY HK
      have d0 := row_at b0 0 _ rfl
      clear hE0 hD' hO' hF' e2 bo
      go_wp2_with (first
        | (go_at_call 89; refine Calls.mono HSY.out ?_; clear HSY; rintro e w10 ⟨rfl, h10⟩))
      try go_ret
      exact HK.out _ h10
end Go.Proofs.Ytehogiondcpbcaa
