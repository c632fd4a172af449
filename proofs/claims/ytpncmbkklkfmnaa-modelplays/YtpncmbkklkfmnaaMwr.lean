/-
  Proved here: what write answers, and makes of a machine.
-/
import Derived.Test.YtpncmbkklkfmnaaJn
namespace Go.Proofs.Ytpncmbkklkfmnaa
open Go.ChangeShapes Go.WideShapes Go.ChangeAt Go.RowKit
open Go.Deep Go.Maps
set_option linter.unusedVariables false
set_option linter.unusedSimpArgs false
set_option maxRecDepth 20000


theorem len_own_g {H : Type} {P : Program} {w : World} {ops : Array Oper} {rest : List Oper} {o : Oper} {a : Act} {Q : Exit → Act → World → Prop} (hw : Region.wanted o (yielded ops a.tmps) = true) (m : Operand) (t : TypeId) (hop : o.op = Op.call { callee := Callee.builtin Builtin.len, args := #[m], argTypes := #[t] })
    (k e : TypeId) (ht : P.underlying t = some (.map k e)) (R : Value → Option (DataW H × List MemPlace)) (b n : Nat) (D : DataW H)
    (hm : a.eval m = .map (some b)) (hown : w.ownsMap P k R b n D) (hK : wpList P ops Q rest (a.put o.dst (goInt (Maps.size D))) w) : wpList P ops Q (o :: rest) a w := by
  refine BigFrame.wpList_want hw fun K hK' => ?_
  have hl := hown.len ht o.type
  unfold Oper.wp
  simp [execOp, hop, resolve, invoke, builtin, hm, hl, Result.andThen]
  exact hK' _ _ hK
theorem field_g {P : Program} {ops : Array Oper} {rest : List Oper} {op : Oper} {a : Act} {w : World} {Q : Exit → Act → World → Prop} (hgd : Region.wanted op (yielded ops a.tmps) = true) (ty : TypeId) (x : Operand) (i : Nat) (ho : op.op = .field ty x i)
    (v0 v : Value) (hx : a.eval x = v0) (hr : ∀ w, (Instr.field ty v0 i).run P w = .ok v w) (h : wpList P ops Q rest (a.put op.dst v) w) : wpList P ops Q (op :: rest) a w := by
  refine BigFrame.wpList_want hgd fun K hK => ?_
  unfold Oper.wp execOp
  simp only [ho, hx, Sem.run_bind, hr, Result.andThen_ok, Sem.run_pure]
  exact hK _ _ h
theorem field44b {v : Ver} (h : v.Ok) (w : World) : (Instr.field 44 (.agg v.arr) 1).run Try.prog w = .ok (.agg (bs v.body)) w := by
  have e : v.arr.extract 1 65 = bs v.body := by
    unfold Ver.arr Ver.cells bs
    have := h.wr.1
    simp
    exact List.take_of_length_le (by rw [List.length_map, this]; exact Nat.le_refl _)
  have hs : (sizeOf 38).run Try.prog w = .ok 64 w := by
    cases hq : Try.prog.info? 38 with
    | none => have := size38; simp [hq] at this
    | some i => have := size38; simp [hq] at this; simp [sizeOf, typeInfo, hq, this]
  unfold Instr.field
  simp [Sem.run_bind, run_underlying Try.underlying44, asAgg]
  unfold part isAgg
  simp [Sem.run_bind, run_underlying Try.underlying38, hs, e]
theorem field44t {v : Ver} (w : World) : (Instr.field 44 (.agg v.arr) 0).run Try.prog w = .ok (.int .u32 v.ts) w := by
  unfold Instr.field
  simp [Sem.run_bind, run_underlying Try.underlying44, asAgg]
  unfold part isAgg
  simp [Sem.run_bind, run_underlying Try.underlying22, Ver.arr, Ver.cells]
theorem step_copy_text {P : Program} {ops : Array Oper} {o : Oper} {a : Act} {w : World} {K : Act → World → Prop} {Q : Exit → Act → World → Prop} {E : Prop} (hgd : o.guard = none) (d s : Operand) (dT sT : TypeId)
    (ho : o.op = .call { callee := .builtin .copy, args := #[d, s], argTypes := #[dT, sT] }) (elem : TypeId) (hu : P.underlying dT = some (.slice elem)) (hsz : (P.info? elem).map (·.size) = some 1)
    (g off dLen dCap : Nat) (hd : a.eval d = .slice (some ⟨g, off, none⟩) dLen dCap) (t : ByteArray) (hs : a.eval s = .string t)
    (cur : List Int) (ty : TypeId) (hg : Row w g (bs cur) ty) (hle : t.size ≤ dLen) (hfit : off + t.size ≤ cur.length)
    (h : K (a.put o.dst (goInt t.size)) (w.setRow g (bs (splice cur off (nums t))))) :
    if Region.wanted o (yielded ops a.tmps) = true then Oper.wp P o a w K Q else E := by
  have hw : Region.wanted o (yielded ops a.tmps) = true := by simp [Region.wanted, hgd]
  rw [if_pos hw]
  have hl := nums_length t
  have hst := run_storeCells_at (P := P) g off ty (bs (nums t)).toList 0 (bs cur) w hg (by simp [bs_size, hl]; simpa [bs, hl] using hfit) (by intro v hv; have := bs_one (nums t); rw [Array.all_eq_true_iff_forall_mem] at this; exact this v (by simpa using hv))
  have e : ((bs cur).toList.take (off + 0) ++ (bs (nums t)).toList ++ (bs cur).toList.drop (off + 0 + (bs (nums t)).toList.length)).toArray = bs (splice cur off (nums t)) := by
    simp [bs, splice]
  rw [e] at hst
  have hmin : Nat.min t.size dLen = t.size := Nat.min_eq_left hle
  have hrun : (Builtin.copy_ #[dT, sT] o.type #[.slice (some ⟨g, off, none⟩) dLen dCap, .string t]).run P w = .ok (goInt t.size) (w.setRow g (bs (splice cur off (nums t)))) := by
    cases hq : P.info? elem with
    | none => simp [hq] at hsz
    | some i =>
      have hi : i.size = 1 := by simpa [hq] using hsz
      have e4 : List.take t.size (List.map (fun b => Value.int .u8 (b.toNat : Int)) t.data.toList) = (bs (nums t)).toList := by
        rw [List.take_of_length_le (by simp)]
        simp [bs, nums]
      simp [Builtin.copy_, run_underlying hu, Builtin.lenOf, Builtin.firstCells, sizeOf, typeInfo, hq, hi, hmin, e4, hst]
  unfold Oper.wp
  simp [execOp, ho, resolve, invoke, builtin, hd, hs, hrun, Result.andThen]
  exact h
theorem size5 : (Try.prog.info? 5).map (·.size) = some 1 := by kernel_rfl
theorem len38 : Try.prog.arrayLen 38 = 64 := by kernel_rfl
theorem elem38 : Try.prog.elem 38 = 5 := by kernel_rfl
/-- Where a body's bytes from a place on begin. -/
def plc (o : Nat) : Nat := if o = 64 then 0 else o
theorem slice38l (X o : Nat) (h : o ≤ 64) (w : World) :
    (Instr.sliceAt 38 (.pointer (some ⟨X, 0, none⟩)) (some (.int .i64 (o : Int))) none none).run Try.prog w = .ok (.slice (some ⟨X, plc o, none⟩) (64 - o) (64 - o)) w := by
  rw [run_sliceAt_array_l (P := Try.prog) w 38 ⟨X, 0, none⟩ (by rw [len38, elem38]; exact Try.underlying38) .i64 (o : Int) (by omega) (by rw [len38]; omega)]
  rw [elem38, len38, Try.sizeOf5]
  simp only [Result.andThen_ok, slicedAt]
  have e1 : ((o : Int)).toNat = o := by omega
  rw [e1]
  unfold plc
  by_cases h6 : o = 64
  · subst h6; rfl
  · rw [if_neg (by omega), if_neg h6, Addr.add_mid]
    congr 2
    simp
theorem wrote_wr {b : List Int} (h : Wr b) {off : Nat} {t : ByteArray} (hl : off + t.size ≤ 64) : Wr (splice b off (nums t)) := by
  refine ⟨by rw [length_splice _ _ _ (by rw [nums_length, h.1]; exact hl), h.1], fun y hy => ?_⟩
  unfold splice at hy
  rcases List.mem_append.1 hy with q | q
  · exact h.2 y (List.mem_of_mem_take q)
  · rcases List.mem_append.1 q with q | q
    · exact nums_bytes t y q
    · exact h.2 y (List.mem_of_mem_drop q)
theorem WsOk.put {n : Nat} {ws : List (Int × List Int)} (h : WsOk n ws) {k : Int} {b : List Int} (hk : 0 ≤ k ∧ k < n) (hb : Wr b) (hf : full ws k = false) : WsOk n (putP ws k b) := by
  refine ⟨putP_rising h.rising k b, ?_, fun p hp => ?_⟩
  · have hs := h.small
    rw [put_length h.rising]
    unfold full at hf
    split
    · exact hs
    · rename_i hh
      simp [hh] at hf
      omega
  · rcases putP_mem.1 hp with rfl | ⟨q, _⟩
    · exact ⟨hb, hk.1, hk.2⟩
    · exact h.wr p q
theorem mb_one {L : List Tx} (h : (L.map Tx.mb).Nodup) {s t : Tx} (hs : s ∈ L) (ht : t ∈ L) (e : s.mb = t.mb) : s = t := by
  induction L with
  | nil => cases hs
  | cons x r ih =>
    rw [List.map_cons, List.nodup_cons] at h
    rcases List.mem_cons.1 hs with rfl | hs' <;> rcases List.mem_cons.1 ht with rfl | ht'
    · rfl
    · exact absurd (List.mem_map.2 ⟨t, ht', e.symm⟩) h.1
    · exact absurd (List.mem_map.2 ⟨s, hs', e⟩) h.1
    · exact ih h.2 hs' ht'
theorem key_one {L : List Tx} (h : (L.map Tx.abs).Pairwise fun a b => a.1 < b.1) {s t : Tx} (hs : s ∈ L) (ht : t ∈ L) (e : s.key = t.key) : s = t := by
  induction L with
  | nil => cases hs
  | cons x r ih =>
    rw [List.map_cons, List.pairwise_cons] at h
    rcases List.mem_cons.1 hs with rfl | hs' <;> rcases List.mem_cons.1 ht with rfl | ht'
    · rfl
    · have := h.1 t.abs (List.mem_map.2 ⟨t, ht', rfl⟩); simp only [Tx.abs] at this; omega
    · have := h.1 s.abs (List.mem_map.2 ⟨s, hs', rfl⟩); simp only [Tx.abs] at this; omega
    · exact ih h.2 hs' ht'
/-- Behind a write that was taken. -/
theorem MA.wrote {w : World} {F : Nat → Prop} {g : Nat} {m : M} (c : MA w F g m) {w2 : World} {t : Tx} (ht : t ∈ m.L) (ws : List (Int × List Int)) (hws : WsOk m.ps.length ws) {n : Nat} (hown : w2.ownsMap Try.prog 33 wrR t.mb n (setD ws)) (htn : w.grownBy w2 (some t.mb)) :
    MA w2 F g { m with L := setT m.L t.key ws } ∧ Off (· = t.mb) w w2 := by
  have ho : Off (· = t.mb) w w2 := Off.of_grown htn (fun j hj => by cases hj; rfl)
  have hkeys : (m.L.map Tx.abs).Pairwise fun a b => a.1 < b.1 := c.ok.keys
  have hown := ownsMap_tight hown
  rw [setD_size] at hown
  have hin : ∀ u ∈ setT m.L t.key ws, ∃ s ∈ m.L, u.mb = s.mb ∧ u.key = s.key ∧ u.start = s.start ∧ (u.ws = s.ws ∧ s ≠ t ∨ u.ws = ws ∧ s = t) := by
    intro u hu
    obtain ⟨s, hs, rfl⟩ := List.mem_map.1 hu
    refine ⟨s, hs, ?_⟩
    by_cases e : s.key = t.key
    · rw [if_pos e]
      exact ⟨rfl, rfl, rfl, Or.inr ⟨rfl, key_one hkeys hs ht e⟩⟩
    · rw [if_neg e]
      exact ⟨rfl, rfl, rfl, Or.inl ⟨rfl, fun q => e (by rw [q])⟩⟩
  have hmb : (setT m.L t.key ws).map Tx.mb = m.L.map Tx.mb := by
    unfold setT
    rw [List.map_map]
    apply List.map_congr_left
    intro s _
    show Tx.mb (if s.key = t.key then _ else s) = s.mb
    split <;> rfl
  have hlen : (setT m.L t.key ws).length = m.L.length := by unfold setT; rw [List.length_map]
  refine ⟨MA.lives c _ (· = t.mb) ho (fun k e => by rw [e]; exact c.at_.km ht) ?_ ?_ (by rw [hmb]; exact c.at_.mne) ?_ (fun _ h => h) ?_ (fun k hk => Nat.lt_of_lt_of_le (c.lt k hk) ho.size) ?_, ho⟩
  · rw [setT_D, hlen]
    exact ownsMap_off c.at_.lown ho (fun e => c.at_.lne t ht e.symm)
  · intro u hu
    obtain ⟨s, hs, e1, _, _, e2⟩ := hin u hu
    rcases e2 with ⟨e2, e3⟩ | ⟨e2, e3⟩
    · rw [e1, e2]
      exact ownsMap_off (c.at_.wown s hs) ho (fun e => e3 (mb_one c.at_.mne hs ht e))
    · rw [e1, e2, e3]
      exact hown
  · intro u hu
    obtain ⟨s, hs, e1, _⟩ := hin u hu
    rw [e1]; exact c.at_.lne s hs
  · intro u hu
    obtain ⟨s, hs, e1, _⟩ := hin u hu
    rw [e1]; exact c.foot _ (Or.inr (Or.inr (Or.inr (Or.inr ⟨s, hs, rfl⟩))))
  · have h := c.ok
    refine { n0 := h.n0, n1 := h.n1, vs := h.vs, lo := h.lo, hi := h.hi, mx := h.mx, pos := h.pos, keys := ?_, few := ?_, tx := ?_ }
    · show ((setT m.L t.key ws).map Tx.abs).Pairwise fun a b => a.1 < b.1
      have e : ((setT m.L t.key ws).map Tx.abs).map (fun a => a.1) = (m.L.map Tx.abs).map (fun a => a.1) := by
        unfold setT
        rw [List.map_map, List.map_map, List.map_map]
        apply List.map_congr_left
        intro s _
        show (Tx.abs (if s.key = t.key then _ else s)).1 = s.key
        split <;> rfl
      rw [← List.pairwise_map (f := fun a : Live => a.1) (R := fun a b => a < b)] at hkeys ⊢
      rw [e]; exact hkeys
    · show ((setT m.L t.key ws).map Tx.abs).length ≤ 8
      rw [List.length_map, hlen]
      have := h.few
      simpa [M.abs] using this
    · intro x hx
      obtain ⟨u, hu, rfl⟩ := List.mem_map.1 hx
      obtain ⟨s, hs, e1, e2, e3, e4⟩ := hin u hu
      have q := h.tx s.abs (List.mem_map.2 ⟨s, hs, rfl⟩)
      simp only [M.abs, Tx.abs] at q ⊢
      rw [e2, e3]
      refine ⟨q.1, q.2.1, q.2.2.1, q.2.2.2.1, ?_⟩
      rcases e4 with ⟨e4, _⟩ | ⟨e4, _⟩
      · rw [e4]; exact q.2.2.2.2
      · rw [e4, List.length_map]; exact hws
theorem MA.txok {w : World} {F : Nat → Prop} {g : Nat} {m : M} (c : MA w F g m) {t : Tx} (ht : t ∈ m.L) : 0 ≤ t.start ∧ t.start ≤ 4294967295 ∧ WsOk m.ps.length t.ws := by
  have q := c.ok.tx t.abs (List.mem_map.2 ⟨t, ht, rfl⟩)
  have h1 := c.ok.hi
  have h2 := c.ok.mx
  simp only [M.abs, Tx.abs, List.length_map] at q h1 h2
  exact ⟨q.2.2.1, by omega, q.2.2.2.2⟩
end Go.Proofs.Ytpncmbkklkfmnaa
