/-
  Proved here: what commit answers, and makes of a machine; a transaction that ends.
-/
import Derived.Test.YtpncmbkklkfmnaaMcd
import Derived.Test.YtpncmbkklkfmnaaMwo
import Derived.Test.YtpncmbkklkfmnaaMwm
import Derived.Test.YtpncmbkklkfmnaaMbe
namespace Go.Proofs.Ytpncmbkklkfmnaa
open Go.ChangeShapes Go.WideShapes Go.ChangeAt Go.RowKit
open Go.Deep Go.Maps
set_option linter.unusedVariables false
set_option linter.unusedSimpArgs false
set_option maxRecDepth 20000


theorem commit_any {w : World} {F : Nat → Prop} {g : Nat} {m : M} (c : MA w F g m) (start : Int) (h0 : 0 ≤ start) (h1 : start ≤ 4294967295) (mb : Nat) (ws : List (Int × List Int)) (hws : WsOk m.ps.length ws) (own : w.ownsMap Try.prog 33 wrR mb ws.length (setD ws)) :
    Calls Try.prog 30 #[.pointer (some ⟨g, 0, none⟩), .agg #[.int .u32 start, .map (some mb)]] w fun r w' => r = .returned (.agg (commitR m.abs start ws).arr) ∧ Went w F g (commitS m.abs start ws) w' := by
  have cm : MAt w F g m.abs := ⟨m, rfl, c⟩
  by_cases hn : ws = []
  · have er : commitR m.abs start ws = ⟨0, 0, start, zs 64⟩ := if_pos hn
    have es : commitS m.abs start ws = m.abs := if_pos hn
    rw [er, es]
    exact (commit_none c start h0 h1 mb ws hws own hn).mono fun r w' h => ⟨h.1, Went.same cm h.2⟩
  · by_cases hlm : m.last = m.max
    · have er : commitR m.abs start ws = Rep.fail 8 := by unfold commitR; rw [if_neg hn, if_pos (by exact hlm)]
      have es : commitS m.abs start ws = m.abs := by unfold commitS; rw [if_neg hn, if_pos (by exact hlm)]
      rw [er, es]
      exact (commit_ts c start h0 h1 mb ws hws own hn hlm).mono fun r w' h => ⟨h.1, Went.same cm h.2⟩
    · by_cases hcl : clash m.abs start ws = true
      · have er : commitR m.abs start ws = Rep.fail 7 := by unfold commitR; rw [if_neg hn, if_neg (by exact hlm), if_pos hcl]
        have es : commitS m.abs start ws = m.abs := by unfold commitS; rw [if_neg hn, if_neg (by exact hlm), if_pos hcl]
        rw [er, es]
        exact (commit_clash c start h0 h1 mb ws hws own hn hlm hcl).mono fun r w' h => ⟨h.1, Went.same cm h.2⟩
      · have er : commitR m.abs start ws = ⟨0, 0, m.last + 1, zs 64⟩ := by unfold commitR; rw [if_neg hn, if_neg (by exact hlm), if_neg hcl]; rfl
        rw [er]
        exact commit_done c start h0 h1 mb ws hws own hn hlm hcl
/-- What is looked up of a transaction. -/
def lookA (o : Option Tx) : Array Value := match o with | some t => #[.int .u32 t.start, .map (some t.mb)] | none => #[.int .u32 0, .map none]
theorem look_tx {w : World} {F : Nat → Prop} {g : Nat} {m : M} (c : MA w F g m) (k : Int) (h0 : 0 ≤ k) (h1 : k ≤ 18446744073709551615) : (Instr.lookup 55 (.map (some m.lm)) (.int .u64 k) true).run Try.prog w = .ok (.tuple #[.agg (lookA (findT m.L k)), .bool (findT m.L k).isSome]) w := by
  obtain ⟨v, ps, hrun, hv⟩ := c.at_.lown.look_ok law32 Try.underlying55 (zero70 w) (txR_mk 0 none) (keyOf_int_mk Try.underlying32 (wf_u64 h0 h1))
  rw [hrun, txD_has]
  obtain ⟨s, b, rfl, hy⟩ := txR_inv hv
  rw [txD_at] at hy
  cases hf : findT m.L k with
  | none =>
    rw [hf] at hy
    injection hy with e1 _
    injection e1 with e1
    injection e1 with e1 e2
    subst e1 e2
    rfl
  | some t =>
    rw [hf] at hy
    injection hy with e1 _
    injection e1 with e1
    injection e1 with e1 e2
    subst e1 e2
    rfl
theorem endT_mem {L : List Tx} {k : Int} {t : Tx} (h : t ∈ endT L k) : t ∈ L := (List.mem_filter.1 h).1
theorem ended_ok {m : M} (ok : m.abs.Ok) (k : Int) : (M.abs { m with L := endT m.L k }).Ok := by
  have hk := ok.keys
  have hf := ok.few
  have ht := ok.tx
  simp only [M.abs] at hk hf ht
  refine { n0 := ok.n0, n1 := ok.n1, vs := ok.vs, lo := ok.lo, hi := ok.hi, mx := ok.mx, pos := ok.pos, keys := ?_, few := ?_, tx := ?_ }
  · simp only [M.abs]
    exact hk.sublist (List.Sublist.map _ (List.filter_sublist))
  · simp only [M.abs, List.length_map] at hf ⊢
    exact Nat.le_trans (List.length_filter_le _ _) hf
  · intro t h
    simp only [M.abs] at h
    obtain ⟨x, hx, rfl⟩ := List.mem_map.1 h
    exact ht _ (List.mem_map.2 ⟨x, endT_mem hx, rfl⟩)
theorem MA.ended {w1 w2 : World} {F : Nat → Prop} {g : Nat} {m : M} (c : MA w1 F g m) (k : Int) {n : Nat} (h2 : w2.ownsMap Try.prog 32 txR m.lm n (txD (endT m.L k))) (ht : w1.mapTurned w2 m.lm) : MA w2 F g { m with L := endT m.L k } ∧ Off (· = m.lm) w1 w2 := by
  have ho : Off (· = m.lm) w1 w2 := Off.of_grown ht.grown (fun j hj => by cases hj; rfl)
  refine ⟨MA.lives c (endT m.L k) (· = m.lm) ho (fun j e => by rw [e]; exact c.at_.kl) ?_ ?_ ?_ ?_ (fun j h => h) ?_ ?_ (ended_ok c.ok k), ho⟩
  · have := ownsMap_tight h2
    rw [txD_size] at this
    exact this
  · intro t hm
    exact ownsMap_off (c.at_.wown t (endT_mem hm)) ho (fun e => c.at_.lne t (endT_mem hm) e)
  · exact c.at_.mne.sublist (List.Sublist.map _ (List.filter_sublist))
  · intro t hm
    exact c.at_.lne t (endT_mem hm)
  · intro t hm
    exact c.foot _ (Or.inr (Or.inr (Or.inr (Or.inr ⟨t, endT_mem hm, rfl⟩))))
  · intro j hj
    exact Nat.lt_of_lt_of_le (c.lt j hj) ho.size
theorem Went.close {w w1 w2 w3 : World} {F : Nat → Prop} {g : Nat} {s : St} {k : Nat} (hF : ∀ k, F k → k < w.heap.size) (o : Off F w w1) (h : Went w1 F g s w2) (hk : k < w1.heap.size) (hw : w.heap.size ≤ k) (o3 : Off (· = k) w2 w3) : Went w F g s w3 := by
  obtain ⟨o2, F', a, hf⟩ := h
  refine ⟨(o.trans o2 (fun j q => Or.inl q)).trans o3 (fun j q => Or.inr (by rw [q]; exact hw)), F', a.off o3 (fun j q e => ?_), fun j hj q => hf j (Nat.lt_of_lt_of_le hj o.size) q⟩
  subst e
  have := hF _ (hf _ hk q)
  omega
theorem step_delete {H : Type} {P : Program} {ops : Array Oper} {o : Oper} {a : Act} {w : World} {K : Act → World → Prop} {Q : Exit → Act → World → Prop} {E : Prop} (hgd : o.guard = none) (m x : Operand) (t k : TypeId) (hop : o.op = Op.call { callee := Callee.builtin Builtin.delete, args := #[m, x], argTypes := #[t, k] })
    (e : TypeId) (KK : Keyed P k) (ht : P.underlying t = some (.map k e)) (R : Value → Option (DataW H × List MemPlace)) (b n : Nat) (D : DataW H)
    (hm : a.eval m = .map (some b)) (hown : w.ownsMap P k R b n D) (key : Value) (kl : Lit) (hx : a.eval x = key) (hkey : keyOf P k key = some kl)
    (hK : ∀ w', w'.ownsMap P k R b n (D.del kl) → w.mapTurned w' b → K (a.put o.dst (.tuple #[])) w') :
    if Region.wanted o (yielded ops a.tmps) = true then Oper.wp P o a w K Q else E := by
  have hw : Region.wanted o (yielded ops a.tmps) = true := by simp [Region.wanted, hgd]
  rw [if_pos hw]
  obtain ⟨w', hrun, r1, r2⟩ := hown.drop KK ht hkey o.type
  unfold Oper.wp
  simp [execOp, hop, resolve, invoke, builtin, hm, hx, hrun, Result.andThen]
  exact hK w' r1 r2
end Go.Proofs.Ytpncmbkklkfmnaa
