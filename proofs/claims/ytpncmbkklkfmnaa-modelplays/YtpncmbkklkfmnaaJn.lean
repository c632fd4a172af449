/-
  Proved here: what a transaction sees of a page. The machine, call by call, as the document tells it; and how its memory follows.
-/
import Derived.Test.YtpncmbkklkfmnaaMat
namespace Go.Proofs.Ytpncmbkklkfmnaa
open Go.ChangeShapes Go.WideShapes Go.ChangeAt Go.RowKit
open Go.Deep Go.Maps
set_option linter.unusedVariables false
set_option linter.unusedSimpArgs false
set_option maxRecDepth 20000


/-- What a transaction sees of a page. -/
def seenV (ws : List (Int × List Int)) (start : Int) (vs : List Ver) (k : Int) : Ver := if hasP ws k = true then ⟨start, atP ws k⟩ else atV vs start
theorem WsOk.at_wr {n : Nat} {ws : List (Int × List Int)} (h : WsOk n ws) (k : Int) : Wr (atP ws k) := by
  cases hh : hasP ws k with
  | true =>
    obtain ⟨ys, hm⟩ := has_mem hh
    rw [(at_mem h.rising hm).1]
    exact (h.wr _ hm).1
  | false => rw [at_none hh]; exact zs_wr
theorem seenV_ok {n : Nat} {ws : List (Int × List Int)} (h : WsOk n ws) {last start : Int} {vs : List Ver} (hv : VsOk last vs) (h0 : 0 ≤ start) (h1 : start ≤ 4294967295) (k : Int) : (seenV ws start vs k).Ok := by
  unfold seenV
  split
  · exact ⟨h0, h1, h.at_wr k⟩
  · exact atV_ok hv h0
theorem wf_u16 {i : Int} (h : 0 ≤ i) (h' : i ≤ 65535) : (Lit.int .u16 i).wf = true := by
  have e : (Lit.int .u16 i).wf = (decide ((0 : Int) ≤ i) && decide (i ≤ 65535)) := rfl
  rw [e]; simp [h, h']
theorem wf_u64 {i : Int} (h : 0 ≤ i) (h' : i ≤ 18446744073709551615) : (Lit.int .u64 i).wf = true := by
  have e : (Lit.int .u64 i).wf = (decide ((0 : Int) ≤ i) && decide (i ≤ 18446744073709551615)) := rfl
  rw [e]; simp [h, h']
set_option maxHeartbeats 1000000 in
theorem seen_any {w : World} {F : Nat → Prop} {g : Nat} {m : M} (c : MA w F g m) (k : Nat) (p : Pg) (hp : m.ps[k]? = some p) (hk16 : k ≤ 65535) (start : Int) (h0 : 0 ≤ start) (h1 : start ≤ 4294967295) (mb : Nat) (ws : List (Int × List Int)) (hws : WsOk m.ps.length ws) (own : w.ownsMap Try.prog 33 wrR mb ws.length (setD ws)) :
    Calls Try.prog 28 #[.pointer (some ⟨g, 0, none⟩), txV start (some mb), .int .u16 k] w fun r w' => r = .returned (.agg (seenV ws start p.vs k).arr) ∧ Below w.heap.size w w' := by
  have hz44 := zero44
  have hz38 := zero38
  have HAT : Hid (∀ W, Below w.heap.size w W → Calls Try.prog 16 #[.pointer (some ⟨g, 0, none⟩), .int .u16 k, .int .u32 start] W fun r w' => r = .returned (.agg (atV p.vs start).arr) ∧ Below W.heap.size W w') := fun W hb => at_in (c.below hb) k p hp start h0
  have hok := seenV_ok hws (c.vsok hp) h0 h1 k
  have HA : Hid ((setD ws).atKey (.int .u16 k) (.held (zs 64)) = .held (atP ws k)) := setD_at ws k
  have HH : Hid (Maps.has (setD ws) (.int .u16 k) = hasP ws k) := setD_has ws k
  have HW : Hid (Wr (atP ws k)) := hws.at_wr k
  have hk : (Lit.int .u16 k).wf = true := wf_u16 (by omega) (by omega)
  clear c
  have HVA : Hid ((seenV ws start p.vs k).arr.size = 65) := Ver.arr_size hok
  have hone := (seenV ws start p.vs k).one
  clear hok
  obtain ⟨V, HV⟩ : ∃ V, Hid ((seenV ws start p.vs k).arr = V) := ⟨_, rfl⟩
  rw [HV.out] at HVA hone ⊢
  have ab : Below w.heap.size w (w.alloc (.cells #[.int .u32 start, .map (some mb)] 70)) := (Below.refl _ _).alloc (Nat.le_refl _) _
  have rx : Row (w.alloc (.cells #[.int .u32 start, .map (some mb)] 70)) w.heap.size #[.int .u32 start, .map (some mb)] 70 := Row.new _ _ _
  have own1 := ownsMap_off (F := fun _ => False) own (Off.of_below ab) (fun q => q)
  unfold txV
  go_enter Try.func28, Try.ntmps28
  have HZS : Hid (Ver.zero.arr.size = 65) := vz
  generalize Ver.zero.arr = Z at hz44 HZS
  go_upto_region 1 with fail
  have ab1 : Below w.heap.size w ((w.alloc (.cells #[.int .u32 start, .map (some mb)] 70)).alloc (.cells Z 44)) := ab.alloc ab.size _
  have r44 : Row ((w.alloc (.cells #[.int .u32 start, .map (some mb)] 70)).alloc (.cells Z 44)) (w.alloc (.cells #[.int .u32 start, .map (some mb)] 70)).heap.size Z 44 := Row.new _ _ _
  have rx1 := rx.alloc (.cells Z 44)
  have own2 := own1.alloc (.cells Z 44)
  have e1 : (w.alloc (.cells #[.int .u32 start, .map (some mb)] 70)).heap.size = w.heap.size + 1 := Array.size_push ..
  rw [e1] at r44
  clear own own1 rx ab e1
  generalize (w.alloc (.cells #[.int .u32 start, .map (some mb)] 70)).alloc (.cells Z 44) = W at ab1 r44 rx1 own2 ⊢
  obtain ⟨A0, HA0⟩ : ∃ A0, Hid (w.heap.size = A0) := ⟨_, rfl⟩
  rw [HA0.out] at r44 rx1 ⊢
  have x0 := row_at rx1 0 _ rfl
  have x1 := row_at rx1 1 _ rfl
  obtain ⟨ys, HY⟩ : ∃ ys, Hid (atP ws k = ys) := ⟨_, rfl⟩
  obtain ⟨b, HB⟩ : ∃ b, Hid (hasP ws k = b) := ⟨_, rfl⟩
  rw [HY.out] at HA HW
  rw [HB.out] at HH
  have rA : Row (W.alloc (.cells (bs (zs 64)) 38)) W.heap.size (bs (zs 64)) 38 := Row.new _ _ _
  have rB : Row ((W.alloc (.cells (bs (zs 64)) 38)).setRow W.heap.size (bs ys)) W.heap.size (bs ys) 38 := rA.set _
  have hl1 := r44.lt
  have hl0 := rx1.lt
  have r44b : Row ((W.alloc (.cells (bs (zs 64)) 38)).setRow W.heap.size (bs ys)) (A0 + 1) Z 44 := (r44.alloc _).other (by omega) _
  have rxb : Row ((W.alloc (.cells (bs (zs 64)) 38)).setRow W.heap.size (bs ys)) A0 #[.int .u32 start, .map (some mb)] 70 := (rx1.alloc _).other (by omega) _
  have ab2 : Below w.heap.size w ((W.alloc (.cells (bs (zs 64)) 38)).setRow W.heap.size (bs ys)) := below_setRow (ab1.alloc ab1.size _) ab1.size _
  have HWL : Hid (ys.length = 64) := HW.out.1
  have ts : Hid (1 = 1) := rfl
  go_upto_region 2 with (first
    | (at_lookup; refine wpList_lookup_own_ok _ rfl _ _ 68 rfl 33 38 lawK Try.underlying68 wrR (hz38 _) (.held (zs 64)) [] (wrR_mk zs_wr) mb _ _ rfl own2 _ _ rfl (keyOf_int_mk Try.underlying33 hk) ?_; intro v ps hv; rw [HA.out] at hv; obtain ⟨xs, _, hvx, hxy⟩ := wrR_inv hv; obtain rfl : ys = xs := (by injection hxy with q; injection q); subst hvx; clear hv hxy; rw [HH.out])
    | (have hh := ts; clear hh ts; refine store_cells rfl 38 (.tmp 7) (.tmp 14) rfl W.heap.size (bs ys) rfl rfl 38 _ rA 64 size38 (by rw [bs_size, zs_length]) (by rw [bs_size]; exact HWL.out) (bs_one ys) ?_))
  clear x0 x1 own2 r44 rx1 rA hz38 hz44 ab1
  generalize (W.alloc (.cells (bs (zs 64)) 38)).setRow W.heap.size (bs ys) = W1 at rB r44b rxb ab2 ⊢
  generalize W.heap.size = A2 at rB hl1 hl0 ⊢
  have x0 := row_at rxb 0 _ rfl
  cases b with
  | true =>
    have HS : Hid (seenV ws start p.vs k = ⟨start, ys⟩) := by show _ = _; unfold seenV; rw [HB.out, if_pos rfl, HY.out]
    have bu := built44_two start ys HWL.out
    rw [← HS.out, HV.out] at bu
    have r2 : Row (W1.setRow (A0 + 1) V) (A0 + 1) V 44 := r44b.set _
    have ab3 : Below w.heap.size w (W1.setRow (A0 + 1) V) := below_setRow ab2 (by rw [HA0.out]; exact Nat.le_succ _) _
    have tl : Hid (1 = 1) := rfl
    have tb : Hid (1 = 1) := rfl
    have ts : Hid (1 = 1) := rfl
    go_wp2_with (first
      | (have hh := tl; clear hh tl; refine load_cells rfl 38 (.tmp 7) rfl A2 rfl 38 (bs ys) rB 64 Try.underlying38 rfl size38 (by rw [bs_size]; exact HWL.out) ?_)
      | (have hh := tb; clear hh tb; refine build_cells rfl 44 #[(0, .tmp 18), (1, .tmp 19)] rfl _ rfl V bu ?_)
      | (have hh := ts; clear hh ts; refine store_cells rfl 44 (.tmp 6) (.tmp 20) rfl (A0 + 1) V rfl rfl 44 _ r44b 65 size44 HZS.out HVA.out hone ?_))
    refine bodyPost_ret (v := .agg V) ?_ rfl ⟨rfl, ab3⟩
    exact ret_cell (fn := Try.f28) rfl _ _ (A0 + 1) 44 V _ rfl r2 Try.underlying44 rfl (by rw [size44, HVA.out])
  | false =>
    have HS : Hid (seenV ws start p.vs k = atV p.vs start) := by show _ = _; unfold seenV; rw [HB.out, if_neg (by simp)]
    have hat := HAT.out W1 ab2
    rw [← HS.out, HV.out] at hat
    have ts : Hid (1 = 1) := rfl
    go_wp2_with (first
      | (go_at_call 16; refine hat.mono ?_; clear hat; rintro e wc ⟨he, hcb⟩; obtain rfl := he; have r1 := r44b.below hcb r44b.lt; have ab3 := ab2.trans (hcb.mono ab2.size))
      | (have hh := ts; clear hh ts; refine store_cells rfl 44 (.tmp 6) (.tmp 25) rfl (A0 + 1) V rfl rfl 44 _ r1 65 size44 HZS.out HVA.out hone ?_))
    have ab4 := below_setRow ab3 (g := A0 + 1) (by rw [HA0.out]; exact Nat.le_succ _) V
    refine bodyPost_ret (v := .agg V) ?_ rfl ⟨rfl, ab4⟩
    exact ret_cell (fn := Try.f28) rfl _ _ (A0 + 1) 44 V _ rfl (r1.set _) Try.underlying44 rfl (by rw [size44, HVA.out])
end Go.Proofs.Ytpncmbkklkfmnaa
namespace Go.Proofs.Ytpncmbkklkfmnaa
open Go.ChangeShapes Go.WideShapes Go.ChangeAt Go.RowKit
open Go.Deep Go.Maps
set_option linter.unusedVariables false
set_option linter.unusedSimpArgs false
set_option maxRecDepth 20000


theorem step_cells {P : Program} {ops : Array Oper} {o : Oper} {a : Act} {w : World} {K : Act → World → Prop} {Q : Exit → Act → World → Prop} {E : Prop} (hgd : o.guard = none) (ty : TypeId) (x y : Operand) (ho : o.op = .store ty x y)
    (g : Nat) (cs : Array Value) (hx : a.eval x = .pointer (some ⟨g, 0, none⟩)) (hy : a.eval y = .agg cs)
    (t : TypeId) (old : Array Value) (hg : Row w g old t) (n : Nat) (hi : (P.info? ty).map (·.size) = some n)
    (hold : old.size = n) (hn : cs.size = n) (h1 : cs.all (·.oneCell') = true) (h : K (a.put o.dst undef) (w.setRow g cs)) :
    if Region.wanted o (yielded ops a.tmps) = true then Oper.wp P o a w K Q else E := by
  have hw : Region.wanted o (yielded ops a.tmps) = true := by simp [Region.wanted, hgd]
  rw [if_pos hw]
  exact wp_store_row ty x y ho g cs hx hy t old hg (by rw [hi, hn]) (by rw [hold, hn]) h1 h
theorem yields_build {P : Program} {ops : Array Oper} {S : World → Prop} {o : Oper} {a : Act} (hw : Region.wanted o (yielded ops a.tmps) = true) (t : TypeId) (parts : Array (Nat × Operand)) (ho : o.op = .build t parts)
    (vs : List (Nat × Value)) (hv : (parts.toList.map fun (i, x) => (i, a.eval x)) = vs) (cs : Array Value) (hb : P.built t vs = some cs) : YieldsIf P ops S o (.agg cs) a := by
  refine Or.inl ⟨hw, fun w hS => ?_⟩
  have e : (parts.map fun (i, x) => (i, a.eval x)).toList = vs := by rw [← hv, Array.toList_map]
  unfold execOp
  simp only [ho, Sem.run_bind, run_build w t _ cs (by rw [e]; exact hb), Result.andThen_ok, Sem.run_pure]
theorem yields_cells {P : Program} {ops : Array Oper} {S : World → Prop} {o : Oper} {a : Act} (hw : Region.wanted o (yielded ops a.tmps) = true) (ty : TypeId) (x : Operand) (ho : o.op = .load ty x)
    (g : Nat) (hx : a.eval x = .pointer (some ⟨g, 0, none⟩)) (t : TypeId) (cs : Array Value) (hg : ∀ w, S w → Row w g cs t) (n : Nat) {d : TypeDesc}
    (hu : P.underlying ty = some d) (hd : (match d with | .struct _ | .array _ _ => true | _ => false) = true) (hi : (P.info? ty).map (·.size) = some n) (hn : cs.size = n) : YieldsIf P ops S o (.agg cs) a := by
  refine Or.inl ⟨hw, fun w hS => ?_⟩
  unfold execOp
  simp only [ho, hx, Instr.loadAt, Instr.sureAddr, Sem.run_bind, Sem.run_pure, Result.andThen_ok, run_loadVar_row w g t ty cs (0, 0) _ (hg w hS) hu hd (by rw [hi, hn])]
theorem step_update {H : Type} {P : Program} {ops : Array Oper} {o : Oper} {a : Act} {w : World} {K : Act → World → Prop} {Q : Exit → Act → World → Prop} {E : Prop} (hgd : o.guard = none) (m x v : Operand) (t : TypeId) (hop : o.op = Op.mapUpdate t m x v)
    (k e : TypeId) (KK : Keyed P k) (ht : P.underlying t = some (.map k e)) (R : Value → Option (DataW H × List MemPlace)) (b n : Nat) (D : DataW H)
    (hm : a.eval m = .map (some b)) (hown : w.ownsMap P k R b n D) (hn : n < maxLen) (key val : Value) (kl : Lit) (hx : a.eval x = key) (hv : a.eval v = val) (hkey : keyOf P k key = some kl)
    (d : DataW H) (ps : List MemPlace) (hval : R val = some (d, ps))
    (hK : ∀ w', w'.ownsMap P k R b (n + 1) (D.put kl d) → w.mapTurned w' b → K (a.put o.dst undef) w') :
    if Region.wanted o (yielded ops a.tmps) = true then Oper.wp P o a w K Q else E := by
  have hw : Region.wanted o (yielded ops a.tmps) = true := by simp [Region.wanted, hgd]
  rw [if_pos hw]
  obtain ⟨w', hrun, r1, r2⟩ := hown.store KK ht hn hkey hval
  unfold Oper.wp
  simp [execOp, hop, hm, hx, hv, hrun, Result.andThen]
  exact hK w' r1 r2

/-- What a block is. -/
def isCells (w : World) (k : Nat) (t : TypeId) : Prop := ∃ cur, w.heap[k]? = some (.cells cur t (0, 0))
def isMap (w : World) (k : Nat) : Prop := ∃ es cl, w.heap[k]? = some (.map es cl)
theorem ne_types {w : World} {a b : Nat} {s t : TypeId} (h : isCells w a s) (k : isCells w b t) (hst : s ≠ t) : a ≠ b := by
  rintro rfl
  obtain ⟨x, hx⟩ := h
  obtain ⟨y, hy⟩ := k
  rw [hx] at hy
  injection hy with q
  injection q with _ q2
  exact hst q2
theorem ne_map {w : World} {a b : Nat} {s : TypeId} (h : isCells w a s) (k : isMap w b) : a ≠ b := by
  rintro rfl
  obtain ⟨x, hx⟩ := h
  obtain ⟨y, z, hy⟩ := k
  rw [hx] at hy
  injection hy with q
  cases q
theorem map_is {H : Type} {w : World} {P : Program} {k : TypeId} {R : Value → Option (DataW H × List MemPlace)} {b n : Nat} {D : DataW H} (h : w.ownsMap P k R b n D) : isMap w b := by
  obtain ⟨es, cl, hb, _⟩ := h
  exact ⟨es, cl, hb⟩
theorem row_is {w : World} {g : Nat} {cs : Array Value} {t : TypeId} (h : Row w g cs t) : isCells w g t := ⟨cs, h⟩
theorem own_is {w : World} {base e size g n cap : Nat} {xs : List Value} (h : w.ownsRow base e size (.slice (some ⟨g, 0, none⟩) n cap) n xs) : isCells w g e := by
  rcases h.2 with ⟨h', _⟩ | ⟨g', cap', cur, h', _, hg, _⟩
  · simp at h'
  · simp only [Value.slice.injEq, Option.some.injEq, Addr.mk.injEq, and_true, true_and] at h'
    obtain ⟨rfl, rfl⟩ := h'
    exact ⟨cur, hg⟩
theorem M.At.kg {m : M} {w : World} {g : Nat} (c : m.At w g) : isCells w g 58 := row_is c.row
theorem M.At.kp {m : M} {w : World} {g : Nat} (c : m.At w g) : isCells w m.pb 59 := own_is c.prow
theorem M.At.kb {m : M} {w : World} {g : Nat} (c : m.At w g) {p : Pg} (hp : p ∈ m.ps) : isCells w p.b 44 := own_is (c.pown p hp)
theorem M.At.kl {m : M} {w : World} {g : Nat} (c : m.At w g) : isMap w m.lm := map_is c.lown
theorem M.At.km {m : M} {w : World} {g : Nat} (c : m.At w g) {t : Tx} (ht : t ∈ m.L) : isMap w t.mb := map_is (c.wown t ht)
/-- Some numbers of a machine are turned. -/
theorem MA.turn {w w' : World} {F : Nat → Prop} {g : Nat} {m : M} (c : MA w F g m) (l b : Int) (q : Bool) (ho : Off (· = g) w w') (r : Row w' g (M.cells { m with last := l, begun := b, closed := q }) 58) (ok : (M.abs { m with last := l, begun := b, closed := q }).Ok) :
    MA w' F g { m with last := l, begun := b, closed := q } := by
  have a := c.at_
  exact { at_ := { row := r, prow := ownsRow_off a.prow ho (fun k hk => by cases hk; exact (ne_types a.kp a.kg (by decide))), pown := fun p hp => ownsRow_off (a.pown p hp) ho (fun k hk => by cases hk; exact (ne_types (a.kb hp) a.kg (by decide))), pne := a.pne, lown := ownsMap_off a.lown ho (fun e => ne_map a.kg a.kl e.symm), wown := fun t ht => ownsMap_off (a.wown t ht) ho (fun e => ne_map a.kg (a.km ht) e.symm), mne := a.mne, lne := a.lne }, ok := ok, foot := c.foot, lt := fun k hk => Nat.lt_of_lt_of_le (c.lt k hk) ho.size }
/-- The live transactions are turned. -/
theorem MA.lives {w w' : World} {F F' : Nat → Prop} {g : Nat} {m : M} (c : MA w F g m) (L : List Tx) (G : Nat → Prop) (ho : Off G w w') (hG : ∀ k, G k → isMap w k)
    (lown : w'.ownsMap Try.prog 32 txR m.lm L.length (txD L)) (wown : ∀ t ∈ L, w'.ownsMap Try.prog 33 wrR t.mb t.ws.length (setD t.ws)) (mne : (L.map Tx.mb).Nodup) (lne : ∀ t ∈ L, t.mb ≠ m.lm)
    (hF : ∀ k, F k → F' k) (hL : ∀ t ∈ L, F' t.mb) (lt : ∀ k, F' k → k < w'.heap.size) (ok : (M.abs { m with L := L }).Ok) : MA w' F' g { m with L := L } := by
  have a := c.at_
  refine { at_ := { row := a.row.off ho (fun q => ne_map a.kg (hG _ q) rfl), prow := ownsRow_off a.prow ho (fun k hk => by cases hk; exact fun q => ne_map a.kp (hG _ q) rfl), pown := fun p hp => ownsRow_off (a.pown p hp) ho (fun k hk => by cases hk; exact fun q => ne_map (a.kb hp) (hG _ q) rfl), pne := a.pne, lown := lown, wown := wown, mne := mne, lne := lne }, ok := ok, foot := fun k hk => ?_, lt := lt }
  rcases hk with h | h | h | h | ⟨t, ht, rfl⟩
  · exact hF _ (c.foot _ (Or.inl h))
  · exact hF _ (c.foot _ (Or.inr (Or.inl h)))
  · exact hF _ (c.foot _ (Or.inr (Or.inr (Or.inl h))))
  · exact hF _ (c.foot _ (Or.inr (Or.inr (Or.inr (Or.inl h)))))
  · exact hL t ht

/-- A call. -/
structure Cal where
  kind : Int
  txn : Int
  page : Int
  off : Int
  str : ByteArray
def Cal.arr (c : Cal) : Array Value := #[.int .u8 c.kind, .int .u64 c.txn, .int .u16 c.page, .int .i64 c.off, .string c.str]
structure Cal.Ok (c : Cal) : Prop where
  k : 0 ≤ c.kind ∧ c.kind ≤ 255
  t : 0 ≤ c.txn ∧ c.txn ≤ 18446744073709551615
  p : 0 ≤ c.page ∧ c.page ≤ 65535
  o : -9223372036854775808 ≤ c.off ∧ c.off ≤ 9223372036854775807
abbrev Live := Int × Int × List (Int × List Int)
def findL (l : List Live) (k : Int) : Option Live := l.find? fun t => decide (t.1 = k)
def endL (l : List Live) (k : Int) : List Live := l.filter fun t => !decide (t.1 = k)
def setL (l : List Live) (k : Int) (ws : List (Int × List Int)) : List Live := l.map fun t => if t.1 = k then (t.1, t.2.1, ws) else t
def nums (s : ByteArray) : List Int := s.data.toList.map fun c => (c.toNat : Int)
theorem nums_length (s : ByteArray) : (nums s).length = s.size := by simp [nums]
theorem nums_bytes (s : ByteArray) : Bytes (nums s) := by
  intro y hy
  obtain ⟨c, _, rfl⟩ := List.mem_map.1 hy
  have := c.toNat_lt
  omega
def St.page (s : St) (k : Int) : List Ver := s.pages.getD k.toNat []
def wrote (b : List Int) (off : Int) (str : ByteArray) : List Int := splice b off.toNat (nums str)
/-- Whether a page that was written has a newer version. -/
def clash (s : St) (start : Int) (ws : List (Int × List Int)) : Bool := ws.any fun p => decide (start < (atV (s.page p.1) s.last).ts)
/-- Each page that was written has one version more. -/
def more (pages : List (List Ver)) (ws : List (Int × List Int)) (ts : Int) : List (List Ver) := pages.mapIdx fun i vs => if hasP ws i = true then vs ++ [⟨ts, atP ws i⟩] else vs
def commitR (s : St) (start : Int) (ws : List (Int × List Int)) : Rep :=
  if ws = [] then ⟨0, 0, start, zs 64⟩ else if s.last = s.max then Rep.fail 8 else if clash s start ws = true then Rep.fail 7 else ⟨0, 0, s.last + 1, zs 64⟩
def commitS (s : St) (start : Int) (ws : List (Int × List Int)) : St :=
  if ws = [] then s else if s.last = s.max then s else if clash s start ws = true then s else { s with last := s.last + 1, pages := more s.pages ws (s.last + 1) }
def beginR (s : St) : Rep := if s.live.length < 8 then ⟨0, s.begun + 1, s.last, zs 64⟩ else Rep.fail 10
def beginS (s : St) : St := if s.live.length < 8 then { s with begun := s.begun + 1, live := s.live ++ [(s.begun + 1, s.last, [])] } else s
/-- Whether a page may be used, and bytes be written there. -/
def badU (s : St) (c : Cal) : Bool := !decide (c.page < s.pages.length) || (decide (c.kind = 2) && !fitsB c.off c.str)
/-- Whether no page more may be written. -/
def full (ws : List (Int × List Int)) (k : Int) : Bool := !hasP ws k && decide (4 ≤ ws.length)
def useR (s : St) (c : Cal) : Rep :=
  if badU s c = true then Rep.fail 1 else match findL s.live c.txn with
  | none => Rep.fail 9
  | some t => if c.kind = 1 then ⟨0, 0, (seenV t.2.2 t.2.1 (s.page c.page) c.page).ts, (seenV t.2.2 t.2.1 (s.page c.page) c.page).body⟩ else if full t.2.2 c.page = true then Rep.fail 10 else Rep.zero
def useS (s : St) (c : Cal) : St :=
  if badU s c = true then s else match findL s.live c.txn with
  | none => s
  | some t => if c.kind = 1 then s else if full t.2.2 c.page = true then s else { s with live := setL s.live c.txn (putP t.2.2 c.page (wrote (seenV t.2.2 t.2.1 (s.page c.page) c.page).body c.off c.str)) }
def endR (s : St) (c : Cal) : Rep := match findL s.live c.txn with
  | none => Rep.fail 9
  | some t => if c.kind = 4 then Rep.zero else commitR { s with live := endL s.live c.txn } t.2.1 t.2.2
def endS (s : St) (c : Cal) : St := match findL s.live c.txn with
  | none => s
  | some t => if c.kind = 4 then { s with live := endL s.live c.txn } else commitS { s with live := endL s.live c.txn } t.2.1 t.2.2
def doR (s : St) (c : Cal) : Rep :=
  if s.closed = true then Rep.fail 12 else if c.kind = 0 then beginR s else if c.kind = 1 ∨ c.kind = 2 then useR s c else if c.kind = 3 ∨ c.kind = 4 then endR s c else if c.kind = 5 ∨ c.kind = 6 ∨ c.kind = 7 then Rep.zero else Rep.fail 1
def doS (s : St) (c : Cal) : St :=
  if s.closed = true then s else if c.kind = 0 then beginS s else if c.kind = 1 ∨ c.kind = 2 then useS s c else if c.kind = 3 ∨ c.kind = 4 then endS s c else if c.kind = 7 then { s with closed := true } else s
theorem findL_abs (L : List Tx) (k : Int) : findL (L.map Tx.abs) k = (findT L k).map Tx.abs := by
  unfold findL findT
  rw [List.find?_map]
  rfl
theorem endL_abs (L : List Tx) (k : Int) : endL (L.map Tx.abs) k = (endT L k).map Tx.abs := by
  unfold endL endT
  rw [List.filter_map]
  rfl
def setT (L : List Tx) (k : Int) (ws : List (Int × List Int)) : List Tx := L.map fun t => if t.key = k then { t with ws := ws } else t
theorem setL_abs (L : List Tx) (k : Int) (ws : List (Int × List Int)) : setL (L.map Tx.abs) k ws = (setT L k ws).map Tx.abs := by
  unfold setL setT
  rw [List.map_map, List.map_map]
  apply List.map_congr_left
  intro t _
  show (if t.key = k then _ else t.abs) = Tx.abs (if t.key = k then _ else t)
  split <;> rfl
theorem findT_some {L : List Tx} {k : Int} {t : Tx} (h : findT L k = some t) : t ∈ L ∧ t.key = k := ⟨List.mem_of_find?_eq_some h, by simpa using List.find?_some h⟩
theorem setT_D (L : List Tx) (k : Int) (ws : List (Int × List Int)) : txD (setT L k ws) = txD L := by
  unfold txD tlits setT
  rw [List.map_map]
  congr 1
  apply List.map_congr_left
  intro t _
  show (Lit.int .u64 (if t.key = k then { t with ws := ws } else t : Tx).key, _) = _
  by_cases h : t.key = k
  · simp [h]
  · simp [h]
theorem St.page_at {m : M} {k : Nat} {p : Pg} (hp : m.ps[k]? = some p) : m.abs.page k = p.vs := by
  unfold St.page M.abs
  simp [List.getD, hp]
end Go.Proofs.Ytpncmbkklkfmnaa
