/-
  Proved here: the fixed run of the statements on rooms: an empty page has room.
-/
import Derived.Test.YtddhjkgefninbaaRor
namespace Go.Proofs.Ytddhjkgefninbaa
open Go.ChangeShapes Go.WideShapes Go.ChangeAt Go.RowKit
set_option linter.unusedVariables false
set_option linter.unusedSimpArgs false
set_option maxRecDepth 20000

theorem field33 (lsn : Int) (oa : Option Addr) (n cap : Nat) (w : World) : (Instr.field 33 (.agg #[.int .u64 lsn, .slice oa n cap]) 1).run Try.prog w = .ok (.slice oa n cap) w := by
  unfold Instr.field
  simp [Sem.run_bind, run_underlying Try.underlying33, asAgg]
  go_simp
theorem field_g {P : Program} {ops : Array Oper} {rest : List Oper} {op : Oper} {a : Act} {w : World} {Q : Exit → Act → World → Prop} (hgd : Region.wanted op (yielded ops a.tmps) = true) (ty : TypeId) (x : Operand) (i : Nat) (ho : op.op = .field ty x i)
    (v0 v : Value) (hx : a.eval x = v0) (hr : ∀ w, (Instr.field ty v0 i).run P w = .ok v w) (h : wpList P ops Q rest (a.put op.dst v) w) : wpList P ops Q (op :: rest) a w := by
  refine BigFrame.wpList_want hgd fun K hK => ?_
  unfold Oper.wp execOp
  simp only [ho, hx, Sem.run_bind, hr, Result.andThen_ok, Sem.run_pure]
  exact hK _ _ h
theorem zero_fits : fits [] 5 = true := by
  have hA : AL [] := fun o ho => by simp at ho
  have hz : (zo 5).delta.size = 5 := zeros_size 5
  unfold fits
  rw [show (5 : Int).toNat = 5 from rfl, hA.addE (by decide) rfl (by rw [hz]; omega), hz]
  decide
theorem zero_find : findP (List.replicate 2 Pge.zero) 0 5 = some 0 := find_hit (p := Pge.zero) rfl zero_fits
theorem zero_live : liveP (List.replicate 2 Pge.zero) = 0 := rfl
set_option maxHeartbeats 1000000 in
theorem awake_any (w : World) : Calls Try.prog 5 #[] w fun e w' => e = .returned (.bool true) ∧ Below w.heap.size w w' := by
  have hnew := new_some 2 (by omega) (by omega) w
  have HF : Hid (∀ w g a, RAt w g a (List.replicate 2 Pge.zero) 0 → Calls Try.prog 9 #[.pointer (some ⟨g, 0, none⟩), .int .i64 5] w fun e w' => e = .returned (.tuple #[.int .i64 0, .bool true]) ∧ RAt w' g a (List.replicate 2 Pge.zero) 0 ∧ Off (two g a) w w') := fun w g a c => by
    refine (find_any c 5).mono ?_
    rintro e w' ⟨h1, h2, h3⟩
    rw [zero_find] at h1 h2
    exact ⟨h1, h2, h3⟩
  have HL : Hid (∀ w g a, RAt w g a (List.replicate 2 Pge.zero) 0 → Calls Try.prog 15 #[.pointer (some ⟨g, 0, none⟩)] w fun e w' => e = .returned (.int .i64 0) ∧ Below w.heap.size w w') := fun w g a c => by
    have := rlive_any c
    rw [zero_live] at this
    exact this
  obtain ⟨P2, HP2⟩ : ∃ P2, Hid (List.replicate 2 Pge.zero = P2) := ⟨_, rfl⟩
  unfold Newed at hnew
  rw [HP2.out] at HF HL hnew
  go_enter Try.func5, Try.ntmps5
  go_wp2_with (first
    | (go_at_call 4; refine hnew.mono ?_; clear hnew; rintro e w1 ⟨g, a, rfl, hg, ha, c1, b1⟩; have hf := HF.out w1 g a c1)
    | (go_at_call 9; refine hf.mono ?_; clear hf; rintro e w2 ⟨rfl, c2, o2⟩; have hl := HL.out w2 g a c2; have b2 : Below w.heap.size w w2 := b1.trans (o2.below b1.size (by rintro k (rfl | rfl) <;> omega)))
    | (go_at_call 15; refine hl.mono ?_; clear hl; rintro e w3 ⟨rfl, h3⟩; have b3 := b2.trans (h3.mono b2.size)))
  go_ret
  exact ⟨rfl, b3⟩
end Go.Proofs.Ytddhjkgefninbaa
