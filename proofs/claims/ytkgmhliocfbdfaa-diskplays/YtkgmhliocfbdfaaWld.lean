/-
  Plain facts on a disk among other blocks: what stays behind a call of it; loads and stores of one block among several; a list of calls that came in.
-/
import Derived.Test.YtkgmhliocfbdfaaGrid
namespace Go.Proofs.Ytkgmhliocfbdfaa
open Go.ChangeShapes Go.WideShapes Go.ChangeAt Go.RowKit
set_option linter.unusedVariables false
set_option linter.unusedSimpArgs false

theorem add_zero (a : Addr) : a.add 0 = a := by unfold Addr.add; split <;> simp_all
theorem Script.open {w : World} {v : Value} {cs : List Call} (h : Script w v cs) : ∃ oa cap, v = .slice oa cs.length cap ∧ cs.length ≤ 140737488355328 ∧ ∀ i, i < cs.length → ∃ (a : Addr) (c : Call), oa = some a ∧ c.Ok w ∧ ∀ j u, c.cells[j]? = some u → w.cell? ((a.add (i * 5)).add j) = some u := by
  rcases h with ⟨rfl, rfl⟩ | ⟨a, cap, rfl, h2, h3⟩
  · exact ⟨none, 0, rfl, by simp, fun i hi => absurd hi (by simp)⟩
  · refine ⟨some a, cap, rfl, h2, fun i hi => ?_⟩
    obtain ⟨c, _, ok, hc⟩ := h3 i hi
    exact ⟨a, c, rfl, ok, hc⟩
/-- A world behind some of the calls: a disk that is calm, a call that came in by value. -/
structure St (w wr : World) (G : Nat) (d : Dsk) (L : Loc) (N : Nat) (B : Nat) (cs : Array Value) : Prop where
  at_ : DAt wr G d L N
  below : Below w.heap.size w wr
  foot : ∀ j, foot G L j → w.heap.size ≤ j
  off : ¬ Go.Proofs.Ytkgmhliocfbdfaa.foot G L B
  row : Row wr B cs 33
theorem St.crashed {w wr wr' : World} {G : Nat} {d d' : Dsk} {L : Loc} {N N' : Nat} {B : Nat} {cs : Array Value} (h : St w wr G d L N B cs) (hc : Crashed wr G d' L N' wr') : ∃ L', St w wr' G d' L' N' B cs := by
  obtain ⟨L', D, O, F⟩ := hc
  refine ⟨L', D, h.below.trans (O.below h.below.size h.foot), fun j hj => ?_, fun q => ?_, h.row.off O h.off⟩
  · rcases F j hj with q | q
    · exact h.foot j q
    · exact Nat.le_trans h.below.size q
  · rcases F B q with q | q
    · exact h.off q
    · have := h.row.lt; omega
theorem St.down {w wr wr' : World} {G : Nat} {d : Dsk} {L : Loc} {N : Nat} {B : Nat} {cs : Array Value} (h : St w wr G d L N B cs) (hb : Below wr.heap.size wr wr') : St w wr' G d L N B cs :=
  ⟨h.at_.below hb, h.below.trans (hb.mono h.below.size), h.foot, h.off, h.row.below hb h.row.lt⟩
theorem St.grow {w wr : World} {G : Nat} {d : Dsk} {L : Loc} {N M : Nat} {B : Nat} {cs : Array Value} (h : St w wr G d L N B cs) (hm : N ≤ M) (hM : M < 1000000000000) : St w wr G d L M B cs := { h with at_ := h.at_.grow hm hM }

theorem add_at (g k : Nat) : (⟨g, k * 256, none⟩ : Addr) = ⟨g, 256 * k, none⟩ := by rw [Nat.mul_comm]
theorem sure_length {w : World} {g : Nat} {d : Dsk} {L : Loc} {N : Nat} (h : DAt w g d L N) (b : Int) (hb : 0 ≤ b ∧ b < d.n) : (d.sure.block b).length = 256 := by
  obtain ⟨s, hs, _⟩ := h.sure
  have hn := h.small
  exact (blk_getD _ (fun i hi => (hs.get_sec (wf_of (by omega) (by omega)) (wf_of (by omega) (by omega))).1) 4 (Nat.le_refl _)).1
theorem store_grid {P : Program} {ops : Array Oper} {rest : List Oper} {op : Oper} {a : Act} {w : World} {Q : Exit → Act → World → Prop} (hgd : op.guard = none) (ty : TypeId) (x y : Operand) (ho : op.op = .store ty x y)
    (b k : Nat) (X : List Int) (p : Addr) (hx : a.eval x = .pointer (some p)) (hp : p = ⟨b, 256 * k, none⟩) (hy : a.eval y = .agg (bs X))
    (ht : w.there b (256 * k) 256) (hi : (P.info? ty).map (·.size) = some 256) (hX : X.length = 256)
    (h : wpList P ops Q rest (a.put op.dst undef) (w.setCells b (256 * k) (X.map (Value.int .u8)))) : wpList P ops Q (op :: rest) a w := by
  subst hp
  refine wpList_store_mid hgd ty x y ho b (256 * k) (bs X) hx hy (by rw [bs_size, hX]; exact ht) (by rw [bs_size, hX]; exact hi) (bs_one X) ?_
  rw [bs_toList]; exact h
theorem seen_to {w : World} {g : Nat} {d : Dsk} {L : Loc} {N : Nat} (hd : DAt w g d L N) (b : Int) (hb : 0 ≤ b ∧ b < d.n) (C : List Int) (hC : d.seen b = C) :
    Calls Try.prog 22 #[.pointer (some ⟨g, 0, none⟩), .int .i64 b] w fun e w' => e = .returned (.agg (bs C)) ∧ Below w.heap.size w w' := by
  subst hC; exact seen_in hd b hb
theorem St.cells {w wr : World} {G : Nat} {d : Dsk} {L : Loc} {N : Nat} {B : Nat} {cs : Array Value} (h : St w wr G d L N B cs) (P o : Nat) (vs : List Value) (hP : ¬ Go.Proofs.Ytkgmhliocfbdfaa.foot G L P) (hB : B < P) (hw : w.heap.size ≤ P) : St w (wr.setCells P o vs) G d L N B cs :=
  have O := off_setCells P vs o wr
  ⟨h.at_.off O (fun j hj q => hP (q ▸ hj)), h.below.trans (O.below h.below.size (fun k e => by rw [e]; exact hw)), h.foot, h.off, h.row.off O (by omega)⟩

theorem Planned.crashed {w w' : World} {g : Nat} {d : Dsk} {L : Loc} {N : Nat} (h : Planned w g d L N w') : Crashed w g d L N w' := by
  obtain ⟨m, hm, h2, h3⟩ := h
  refine ⟨L.plan m, h2, h3.mono (fun j hj => Or.inl (Or.inl hj)), ?_⟩
  rintro j (q | q | q | q | q)
  · exact Or.inl (Or.inl q)
  · exact Or.inl (Or.inr (Or.inl q))
  · exact Or.inl (Or.inr (Or.inr (Or.inl q)))
  · exact Or.inl (Or.inr (Or.inr (Or.inr (Or.inl q))))
  · simp [Loc.plan] at q; exact Or.inr (by omega)
theorem St.step {w wr wr' : World} {G : Nat} {d d' : Dsk} {L : Loc} {N N' : Nat} {B : Nat} {cs : Array Value} (h : St w wr G d L N B cs) (hc : Crashed wr G d' L N' wr') : ∃ L', St w wr' G d' L' N' B cs ∧ ∀ P n k f, Grid wr P n k f → ¬ Go.Proofs.Ytkgmhliocfbdfaa.foot G L P → Grid wr' P n k f ∧ ¬ Go.Proofs.Ytkgmhliocfbdfaa.foot G L' P := by
  obtain ⟨L', D, O, F⟩ := hc
  refine ⟨L', ⟨D, h.below.trans (O.below h.below.size h.foot), fun j hj => ?_, fun q => ?_, h.row.off O h.off⟩, fun P n k f hg hp => ⟨hg.off O hp, fun q => ?_⟩⟩
  · rcases F j hj with q | q
    · exact h.foot j q
    · exact Nat.le_trans h.below.size q
  · rcases F B q with q | q
    · exact h.off q
    · have := h.row.lt; omega
  · rcases F P q with q | q
    · exact hp q
    · have := hg.lt; omega

theorem yields_neq {P : Program} {ops : Array Oper} {S : World → Prop} {o : Oper} {a : Act} (hw : Region.wanted o (yielded ops a.tmps) = true) (ty ty' : TypeId) (x y : Operand) (ho : o.op = .binOp .neq ty x y ty')
    (xs ys : Array Value) (hx : a.eval x = .agg xs) (hy : a.eval y = .agg ys) (hm : P.eqGuardType P.depth ty = false) (b : Bool) (hr : ∀ w, (Op.equalIn 10000 ty (.agg xs) (.agg ys)).run P w = .ok b w) : YieldsIf P ops S o (.bool (!b)) a := by
  refine Or.inl ⟨hw, fun w hS => ?_⟩
  unfold execOp
  simp only [ho, hx, hy, Sem.run_bind, run_eqGuard_agg w .neq ty x y xs ys hm, Result.andThen_ok, run_neq_struct, hr, Sem.run_pure]
theorem yields_mid {P : Program} {ops : Array Oper} {S : World → Prop} {o : Oper} {a : Act} (hw : Region.wanted o (yielded ops a.tmps) = true) (ty : TypeId) (x : Operand) (ho : o.op = .load ty x)
    (b off : Nat) (hx : a.eval x = .pointer (some ⟨b, off, none⟩)) (X : List Int) (hS : ∀ w, S w → w.rangeAt b off (X.map (Value.int .u8))) {d : TypeDesc}
    (hu : P.underlying ty = some d) (hd : d.isRow = true) (hi : (P.info? ty).map (·.size) = some X.length) : YieldsIf P ops S o (.agg (bs X)) a :=
  yieldsIf_load_mid hw ty x ho b off hx (X.map (Value.int .u8)) d hS hu hd (by rw [List.length_map]; exact hi)
theorem Grid.get {w : World} {g n k : Nat} {f : Nat → List Int} (h : Grid w g n k f) (j : Nat) (hj : j < k) : w.rangeAt g (j * 256) ((f j).map (Value.int .u8)) := by rw [Nat.mul_comm]; exact h.got j hj
end Go.Proofs.Ytkgmhliocfbdfaa
