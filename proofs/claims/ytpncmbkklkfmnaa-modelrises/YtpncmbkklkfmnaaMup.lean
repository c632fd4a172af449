/-
  The machine, call by call, as the document tells it; and how its memory follows.
-/
import Derived.Test.YtpncmbkklkfmnaaMse
namespace Go.Proofs.Ytpncmbkklkfmnaa
open Go.ChangeShapes Go.WideShapes Go.ChangeAt Go.RowKit
open Go.Deep Go.Maps
set_option linter.unusedVariables false
set_option linter.unusedSimpArgs false
set_option maxRecDepth 20000


theorem step_cells {P : Program} {ops : Array Oper} {o : Oper} {a : Act} {w : World} {K : Act → World → Prop} {Q : Exit → Act → World → Prop} {E : Prop} (hgd : o.guard = none) (ty : TypeId) (x y : Operand) (ho : o.op = .store ty x y)
    (g : Nat) (cs : Array Value) (hx : a.eval x = .pointer (some ⟨g, 0, none⟩)) (hy : a.eval y = .agg cs)
    (t : TypeId) (old : Array Value) (hg : Row w g old t) (n : Nat) (hi : (P.info? ty).map (·.size) = some n)
    (hold : old.size = n) (hn : cs.size = n) (h1 : cs.all (·.oneCell') = true) (h : K (a.put o.dst undef) (w.setRow g cs)) :
    if Region.wanted o (yielded ops a.tmps) = true then Oper.wp P o a w K Q else E := by
  have hw : Region.wanted o (yielded ops a.tmps) = true := by simp [Region.wanted, hgd]
  rw [if_pos hw]
  exact wp_store_row ty x y ho g cs hx hy t old hg (by rw [hi, hn]) (by rw [hold, hn]) h1 h
theorem yields_build {P : Program} {ops : Array Oper} {S : World → Prop} {o : Oper} {a : Act} (hw : Region.wanted o (yielded ops a.tmps) = true) (t : TypeId) (parts : Array (Nat × Operand)) (ho : o.op = .build t parts)
    (vs : List (Nat × Value)) (hv : (parts.toList.map fun (i, x) => (i, a.eval x)) = vs) (cs : Array Value) (hb : P.built t vs = some cs) : YieldsIf P ops S o (.agg cs) a := by
  refine Or.inl ⟨hw, fun w hS => ?_⟩
  have e : (parts.map fun (i, x) => (i, a.eval x)).toList = vs := by rw [← hv, Array.toList_map]
  unfold execOp
  simp only [ho, Sem.run_bind, run_build w t _ cs (by rw [e]; exact hb), Result.andThen_ok, Sem.run_pure]
theorem yields_cells {P : Program} {ops : Array Oper} {S : World → Prop} {o : Oper} {a : Act} (hw : Region.wanted o (yielded ops a.tmps) = true) (ty : TypeId) (x : Operand) (ho : o.op = .load ty x)
    (g : Nat) (hx : a.eval x = .pointer (some ⟨g, 0, none⟩)) (t : TypeId) (cs : Array Value) (hg : ∀ w, S w → Row w g cs t) (n : Nat) {d : TypeDesc}
    (hu : P.underlying ty = some d) (hd : (match d with | .struct _ | .array _ _ => true | _ => false) = true) (hi : (P.info? ty).map (·.size) = some n) (hn : cs.size = n) : YieldsIf P ops S o (.agg cs) a := by
  refine Or.inl ⟨hw, fun w hS => ?_⟩
  unfold execOp
  simp only [ho, hx, Instr.loadAt, Instr.sureAddr, Sem.run_bind, Sem.run_pure, Result.andThen_ok, run_loadVar_row w g t ty cs (0, 0) _ (hg w hS) hu hd (by rw [hi, hn])]
theorem step_update {H : Type} {P : Program} {ops : Array Oper} {o : Oper} {a : Act} {w : World} {K : Act → World → Prop} {Q : Exit → Act → World → Prop} {E : Prop} (hgd : o.guard = none) (m x v : Operand) (t : TypeId) (hop : o.op = Op.mapUpdate t m x v)
    (k e : TypeId) (KK : Keyed P k) (ht : P.underlying t = some (.map k e)) (R : Value → Option (DataW H × List MemPlace)) (b n : Nat) (D : DataW H)
    (hm : a.eval m = .map (some b)) (hown : w.ownsMap P k R b n D) (hn : n < maxLen) (key val : Value) (kl : Lit) (hx : a.eval x = key) (hv : a.eval v = val) (hkey : keyOf P k key = some kl)
    (d : DataW H) (ps : List MemPlace) (hval : R val = some (d, ps))
    (hK : ∀ w', w'.ownsMap P k R b (n + 1) (D.put kl d) → w.mapTurned w' b → K (a.put o.dst undef) w') :
    if Region.wanted o (yielded ops a.tmps) = true then Oper.wp P o a w K Q else E := by
  have hw : Region.wanted o (yielded ops a.tmps) = true := by simp [Region.wanted, hgd]
  rw [if_pos hw]
  obtain ⟨w', hrun, r1, r2⟩ := hown.store KK ht hn hkey hval
  unfold Oper.wp
  simp [execOp, hop, hm, hx, hv, hrun, Result.andThen]
  exact hK w' r1 r2

/-- What a block is. -/
def isCells (w : World) (k : Nat) (t : TypeId) : Prop := ∃ cur, w.heap[k]? = some (.cells cur t (0, 0))
def isMap (w : World) (k : Nat) : Prop := ∃ es cl, w.heap[k]? = some (.map es cl)
theorem ne_types {w : World} {a b : Nat} {s t : TypeId} (h : isCells w a s) (k : isCells w b t) (hst : s ≠ t) : a ≠ b := by
  rintro rfl
  obtain ⟨x, hx⟩ := h
  obtain ⟨y, hy⟩ := k
  rw [hx] at hy
  injection hy with q
  injection q with _ q2
  exact hst q2
theorem ne_map {w : World} {a b : Nat} {s : TypeId} (h : isCells w a s) (k : isMap w b) : a ≠ b := by
  rintro rfl
  obtain ⟨x, hx⟩ := h
  obtain ⟨y, z, hy⟩ := k
  rw [hx] at hy
  injection hy with q
  cases q
theorem map_is {H : Type} {w : World} {P : Program} {k : TypeId} {R : Value → Option (DataW H × List MemPlace)} {b n : Nat} {D : DataW H} (h : w.ownsMap P k R b n D) : isMap w b := by
  obtain ⟨es, cl, hb, _⟩ := h
  exact ⟨es, cl, hb⟩
theorem row_is {w : World} {g : Nat} {cs : Array Value} {t : TypeId} (h : Row w g cs t) : isCells w g t := ⟨cs, h⟩
theorem own_is {w : World} {base e size g n cap : Nat} {xs : List Value} (h : w.ownsRow base e size (.slice (some ⟨g, 0, none⟩) n cap) n xs) : isCells w g e := by
  rcases h.2 with ⟨h', _⟩ | ⟨g', cap', cur, h', _, hg, _⟩
  · simp at h'
  · simp only [Value.slice.injEq, Option.some.injEq, Addr.mk.injEq, and_true, true_and] at h'
    obtain ⟨rfl, rfl⟩ := h'
    exact ⟨cur, hg⟩
theorem M.At.kg {m : M} {w : World} {g : Nat} (c : m.At w g) : isCells w g 58 := row_is c.row
theorem M.At.kp {m : M} {w : World} {g : Nat} (c : m.At w g) : isCells w m.pb 59 := own_is c.prow
theorem M.At.kb {m : M} {w : World} {g : Nat} (c : m.At w g) {p : Pg} (hp : p ∈ m.ps) : isCells w p.b 44 := own_is (c.pown p hp)
theorem M.At.kl {m : M} {w : World} {g : Nat} (c : m.At w g) : isMap w m.lm := map_is c.lown
theorem M.At.km {m : M} {w : World} {g : Nat} (c : m.At w g) {t : Tx} (ht : t ∈ m.L) : isMap w t.mb := map_is (c.wown t ht)
/-- Some numbers of a machine are turned. -/
theorem MA.turn {w w' : World} {F : Nat → Prop} {g : Nat} {m : M} (c : MA w F g m) (l b : Int) (q : Bool) (ho : Off (· = g) w w') (r : Row w' g (M.cells { m with last := l, begun := b, closed := q }) 58) (ok : (M.abs { m with last := l, begun := b, closed := q }).Ok) :
    MA w' F g { m with last := l, begun := b, closed := q } := by
  have a := c.at_
  exact { at_ := { row := r, prow := ownsRow_off a.prow ho (fun k hk => by cases hk; exact (ne_types a.kp a.kg (by decide))), pown := fun p hp => ownsRow_off (a.pown p hp) ho (fun k hk => by cases hk; exact (ne_types (a.kb hp) a.kg (by decide))), pne := a.pne, lown := ownsMap_off a.lown ho (fun e => ne_map a.kg a.kl e.symm), wown := fun t ht => ownsMap_off (a.wown t ht) ho (fun e => ne_map a.kg (a.km ht) e.symm), mne := a.mne, lne := a.lne }, ok := ok, foot := c.foot, lt := fun k hk => Nat.lt_of_lt_of_le (c.lt k hk) ho.size }
/-- The live transactions are turned. -/
theorem MA.lives {w w' : World} {F F' : Nat → Prop} {g : Nat} {m : M} (c : MA w F g m) (L : List Tx) (G : Nat → Prop) (ho : Off G w w') (hG : ∀ k, G k → isMap w k)
    (lown : w'.ownsMap Try.prog 32 txR m.lm L.length (txD L)) (wown : ∀ t ∈ L, w'.ownsMap Try.prog 33 wrR t.mb t.ws.length (setD t.ws)) (mne : (L.map Tx.mb).Nodup) (lne : ∀ t ∈ L, t.mb ≠ m.lm)
    (hF : ∀ k, F k → F' k) (hL : ∀ t ∈ L, F' t.mb) (lt : ∀ k, F' k → k < w'.heap.size) (ok : (M.abs { m with L := L }).Ok) : MA w' F' g { m with L := L } := by
  have a := c.at_
  refine { at_ := { row := a.row.off ho (fun q => ne_map a.kg (hG _ q) rfl), prow := ownsRow_off a.prow ho (fun k hk => by cases hk; exact fun q => ne_map a.kp (hG _ q) rfl), pown := fun p hp => ownsRow_off (a.pown p hp) ho (fun k hk => by cases hk; exact fun q => ne_map (a.kb hp) (hG _ q) rfl), pne := a.pne, lown := lown, wown := wown, mne := mne, lne := lne }, ok := ok, foot := fun k hk => ?_, lt := lt }
  rcases hk with h | h | h | h | ⟨t, ht, rfl⟩
  · exact hF _ (c.foot _ (Or.inl h))
  · exact hF _ (c.foot _ (Or.inr (Or.inl h)))
  · exact hF _ (c.foot _ (Or.inr (Or.inr (Or.inl h))))
  · exact hF _ (c.foot _ (Or.inr (Or.inr (Or.inr (Or.inl h)))))
  · exact hL t ht

/-- A call. -/
structure Cal where
  kind : Int
  txn : Int
  page : Int
  off : Int
  str : ByteArray
def Cal.arr (c : Cal) : Array Value := #[.int .u8 c.kind, .int .u64 c.txn, .int .u16 c.page, .int .i64 c.off, .string c.str]
structure Cal.Ok (c : Cal) : Prop where
  k : 0 ≤ c.kind ∧ c.kind ≤ 255
  t : 0 ≤ c.txn ∧ c.txn ≤ 18446744073709551615
  p : 0 ≤ c.page ∧ c.page ≤ 65535
  o : -9223372036854775808 ≤ c.off ∧ c.off ≤ 9223372036854775807
abbrev Live := Int × Int × List (Int × List Int)
def findL (l : List Live) (k : Int) : Option Live := l.find? fun t => decide (t.1 = k)
def endL (l : List Live) (k : Int) : List Live := l.filter fun t => !decide (t.1 = k)
def setL (l : List Live) (k : Int) (ws : List (Int × List Int)) : List Live := l.map fun t => if t.1 = k then (t.1, t.2.1, ws) else t
def nums (s : ByteArray) : List Int := s.data.toList.map fun c => (c.toNat : Int)
theorem nums_length (s : ByteArray) : (nums s).length = s.size := by simp [nums]
theorem nums_bytes (s : ByteArray) : Bytes (nums s) := by
  intro y hy
  obtain ⟨c, _, rfl⟩ := List.mem_map.1 hy
  have := c.toNat_lt
  omega
def St.page (s : St) (k : Int) : List Ver := s.pages.getD k.toNat []
def wrote (b : List Int) (off : Int) (str : ByteArray) : List Int := splice b off.toNat (nums str)
/-- Whether a page that was written has a newer version. -/
def clash (s : St) (start : Int) (ws : List (Int × List Int)) : Bool := ws.any fun p => decide (start < (atV (s.page p.1) s.last).ts)
/-- Each page that was written has one version more. -/
def more (pages : List (List Ver)) (ws : List (Int × List Int)) (ts : Int) : List (List Ver) := pages.mapIdx fun i vs => if hasP ws i = true then vs ++ [⟨ts, atP ws i⟩] else vs
def commitR (s : St) (start : Int) (ws : List (Int × List Int)) : Rep :=
  if ws = [] then ⟨0, 0, start, zs 64⟩ else if s.last = s.max then Rep.fail 8 else if clash s start ws = true then Rep.fail 7 else ⟨0, 0, s.last + 1, zs 64⟩
def commitS (s : St) (start : Int) (ws : List (Int × List Int)) : St :=
  if ws = [] then s else if s.last = s.max then s else if clash s start ws = true then s else { s with last := s.last + 1, pages := more s.pages ws (s.last + 1) }
def beginR (s : St) : Rep := if s.live.length < 8 then ⟨0, s.begun + 1, s.last, zs 64⟩ else Rep.fail 10
def beginS (s : St) : St := if s.live.length < 8 then { s with begun := s.begun + 1, live := s.live ++ [(s.begun + 1, s.last, [])] } else s
/-- Whether a page may be used, and bytes be written there. -/
def badU (s : St) (c : Cal) : Bool := !decide (c.page < s.pages.length) || (decide (c.kind = 2) && !fitsB c.off c.str)
/-- Whether no page more may be written. -/
def full (ws : List (Int × List Int)) (k : Int) : Bool := !hasP ws k && decide (4 ≤ ws.length)
def useR (s : St) (c : Cal) : Rep :=
  if badU s c = true then Rep.fail 1 else match findL s.live c.txn with
  | none => Rep.fail 9
  | some t => if c.kind = 1 then ⟨0, 0, (seenV t.2.2 t.2.1 (s.page c.page) c.page).ts, (seenV t.2.2 t.2.1 (s.page c.page) c.page).body⟩ else if full t.2.2 c.page = true then Rep.fail 10 else Rep.zero
def useS (s : St) (c : Cal) : St :=
  if badU s c = true then s else match findL s.live c.txn with
  | none => s
  | some t => if c.kind = 1 then s else if full t.2.2 c.page = true then s else { s with live := setL s.live c.txn (putP t.2.2 c.page (wrote (seenV t.2.2 t.2.1 (s.page c.page) c.page).body c.off c.str)) }
def endR (s : St) (c : Cal) : Rep := match findL s.live c.txn with
  | none => Rep.fail 9
  | some t => if c.kind = 4 then Rep.zero else commitR { s with live := endL s.live c.txn } t.2.1 t.2.2
def endS (s : St) (c : Cal) : St := match findL s.live c.txn with
  | none => s
  | some t => if c.kind = 4 then { s with live := endL s.live c.txn } else commitS { s with live := endL s.live c.txn } t.2.1 t.2.2
def doR (s : St) (c : Cal) : Rep :=
  if s.closed = true then Rep.fail 12 else if c.kind = 0 then beginR s else if c.kind = 1 ∨ c.kind = 2 then useR s c else if c.kind = 3 ∨ c.kind = 4 then endR s c else if c.kind = 5 ∨ c.kind = 6 ∨ c.kind = 7 then Rep.zero else Rep.fail 1
def doS (s : St) (c : Cal) : St :=
  if s.closed = true then s else if c.kind = 0 then beginS s else if c.kind = 1 ∨ c.kind = 2 then useS s c else if c.kind = 3 ∨ c.kind = 4 then endS s c else if c.kind = 7 then { s with closed := true } else s
theorem findL_abs (L : List Tx) (k : Int) : findL (L.map Tx.abs) k = (findT L k).map Tx.abs := by
  unfold findL findT
  rw [List.find?_map]
  rfl
theorem endL_abs (L : List Tx) (k : Int) : endL (L.map Tx.abs) k = (endT L k).map Tx.abs := by
  unfold endL endT
  rw [List.filter_map]
  rfl
def setT (L : List Tx) (k : Int) (ws : List (Int × List Int)) : List Tx := L.map fun t => if t.key = k then { t with ws := ws } else t
theorem setL_abs (L : List Tx) (k : Int) (ws : List (Int × List Int)) : setL (L.map Tx.abs) k ws = (setT L k ws).map Tx.abs := by
  unfold setL setT
  rw [List.map_map, List.map_map]
  apply List.map_congr_left
  intro t _
  show (if t.key = k then _ else t.abs) = Tx.abs (if t.key = k then _ else t)
  split <;> rfl
theorem findT_some {L : List Tx} {k : Int} {t : Tx} (h : findT L k = some t) : t ∈ L ∧ t.key = k := ⟨List.mem_of_find?_eq_some h, by simpa using List.find?_some h⟩
theorem setT_D (L : List Tx) (k : Int) (ws : List (Int × List Int)) : txD (setT L k ws) = txD L := by
  unfold txD tlits setT
  rw [List.map_map]
  congr 1
  apply List.map_congr_left
  intro t _
  show (Lit.int .u64 (if t.key = k then { t with ws := ws } else t : Tx).key, _) = _
  by_cases h : t.key = k
  · simp [h]
  · simp [h]
theorem St.page_at {m : M} {k : Nat} {p : Pg} (hp : m.ps[k]? = some p) : m.abs.page k = p.vs := by
  unfold St.page M.abs
  simp [List.getD, hp]
end Go.Proofs.Ytpncmbkklkfmnaa
