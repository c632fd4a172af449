/-
  Proved here: replies and versions that are alike; a machine through calls; the statements' fixed run (awake), and small.
-/
import Derived.Test.YtpncmbkklkfmnaaMnw
namespace Go.Proofs.Ytpncmbkklkfmnaa
open Go.ChangeShapes Go.WideShapes Go.ChangeAt Go.RowKit
open Go.Deep Go.Maps
set_option linter.unusedVariables false
set_option linter.unusedSimpArgs false
set_option maxRecDepth 20000


theorem cells5 : Try.prog.cellsOf 5 = 1 := by kernel_rfl
theorem equal38 (xs ys : List Int) (hx : xs.length = 64) (hy : ys.length = 64) (w : World) : (Op.equalIn 9999 38 (.agg (bs xs)) (.agg (bs ys))).run Try.prog w = .ok (decide (xs = ys)) w := by
  cases hq : Try.prog.info? 5 with
  | none => have := size5; simp [hq] at this
  | some inf =>
    have h1 := run_equalIn_array (P := Try.prog) (w := w) 9998 (bs xs) (bs ys) Try.underlying38 hq
    have h2 := eqItems_bytes (P := Try.prog) 9997 5 Try.underlying5 size5 cells5 xs ys w (List.range 64) (fun i hi => by have := List.mem_range.1 hi; omega)
    rw [all_range xs ys 64 hx hy] at h2
    exact h1.trans h2
theorem equal38a (xs ys : List Int) (hx : xs.length = 64) (hy : ys.length = 64) (w : World) : (Op.equalIn 10000 38 (.agg (bs xs)) (.agg (bs ys))).run Try.prog w = .ok (decide (xs = ys)) w := equal_bytes 38 5 64 Try.underlying38 Try.underlying5 size5 cells5 xs ys hx hy w
instance : DecidableEq Rep := fun a b => by
  cases a; cases b
  simp only [Rep.mk.injEq]
  exact inferInstance
instance : DecidableEq Ver := fun a b => by
  cases a; cases b
  simp only [Ver.mk.injEq]
  exact inferInstance
theorem equal40 (a b : Rep) (ha : a.body.length = 64) (hb : b.body.length = 64) (w : World) : (Op.equalIn 10000 40 (.agg a.arr) (.agg b.arr)).run Try.prog w = .ok (decide (a = b)) w := by
  obtain ⟨l, t, p, xs⟩ := a
  obtain ⟨l', t', p', ys⟩ := b
  have h38 := equal38 xs ys ha hb
  unfold Rep.arr Rep.cells
  go_simp
  have e1 : (List.take 64 (List.map (Value.int .u8) xs)).toArray = bs xs := by unfold bs; rw [List.take_of_length_le (by simp at ha ⊢; omega)]
  have e2 : (List.take 64 (List.map (Value.int .u8) ys)).toArray = bs ys := by unfold bs; rw [List.take_of_length_le (by simp at hb ⊢; omega)]
  rw [e1, e2, h38]
  by_cases h1 : l = l' <;> by_cases h2 : t = t' <;> by_cases h3 : p = p' <;> by_cases h5 : xs = ys <;> simp [h1, h2, h3, h5]
theorem equal44 (a b : Ver) (ha : a.body.length = 64) (hb : b.body.length = 64) (w : World) : (Op.equalIn 10000 44 (.agg a.arr) (.agg b.arr)).run Try.prog w = .ok (decide (a = b)) w := by
  obtain ⟨l, xs⟩ := a
  obtain ⟨l', ys⟩ := b
  have h38 := equal38 xs ys ha hb
  unfold Ver.arr Ver.cells
  go_simp
  have e1 : (List.take 64 (List.map (Value.int .u8) xs)).toArray = bs xs := by unfold bs; rw [List.take_of_length_le (by simp at ha ⊢; omega)]
  have e2 : (List.take 64 (List.map (Value.int .u8) ys)).toArray = bs ys := by unfold bs; rw [List.take_of_length_le (by simp at hb ⊢; omega)]
  rw [e1, e2, h38]
  by_cases h1 : l = l' <;> by_cases h5 : xs = ys <;> simp [h1, h5]
theorem build_cells_g {P : Program} {ops : Array Oper} {rest : List Oper} {o : Oper} {a : Act} {w : World} {Q : Exit → Act → World → Prop} (hw : Region.wanted o (yielded ops a.tmps) = true) (t : TypeId) (parts : Array (Nat × Operand)) (ho : o.op = .build t parts)
    (vs : List (Nat × Value)) (hv : (parts.toList.map fun (i, x) => (i, a.eval x)) = vs) (cs : Array Value) (hb : P.built t vs = some cs)
    (h : wpList P ops Q rest (a.put o.dst (.agg cs)) w) : wpList P ops Q (o :: rest) a w := by
  refine BigFrame.wpList_want hw fun K hK => ?_
  have e : (parts.map fun (i, x) => (i, a.eval x)).toList = vs := by rw [← hv, Array.toList_map]
  unfold Oper.wp execOp
  simp only [ho, Sem.run_bind, run_build w t _ cs (by rw [e]; exact hb), Result.andThen_ok, Sem.run_pure]
  exact hK _ _ h
theorem load_cells_g {P : Program} {ops : Array Oper} {rest : List Oper} {o : Oper} {a : Act} {w : World} {Q : Exit → Act → World → Prop} (hw : Region.wanted o (yielded ops a.tmps) = true) (ty : TypeId) (x : Operand) (ho : o.op = .load ty x)
    (g : Nat) (hx : a.eval x = .pointer (some ⟨g, 0, none⟩)) (t : TypeId) (cs : Array Value) (hg : Row w g cs t) (n : Nat) {d : TypeDesc}
    (hu : P.underlying ty = some d) (hd : (match d with | .struct _ | .array _ _ => true | _ => false) = true) (hi : (P.info? ty).map (·.size) = some n) (hn : cs.size = n)
    (h : wpList P ops Q rest (a.put o.dst (.agg cs)) w) : wpList P ops Q (o :: rest) a w :=
  BigFrame.wpList_want hw fun _ hK => wp_load_row ty x ho g hx t cs (0, 0) _ hg hu hd (by rw [hi, hn]) (hK _ _ h)
/-- A machine that was made behind a world, and where it is now. -/
structure MS (w0 : World) (F : Nat → Prop) (g : Nat) (s : St) (w : World) : Prop where
  at_ : MAt w F g s
  bel : Below w0.heap.size w0 w
  new : ∀ k, F k → w0.heap.size ≤ k
/-- A call has been done. -/
def Step (w0 : World) (F : Nat → Prop) (g : Nat) (s : St) (w w' : World) : Prop := ∃ F', MS w0 F' g s w' ∧ Off F w w' ∧ ∀ k, k < w.heap.size → F' k → F k
theorem MS.off {w0 w w' : World} {F G : Nat → Prop} {g : Nat} {s : St} (c : MS w0 F g s w) (ho : Off G w w') (hG : ∀ k, G k → w0.heap.size ≤ k ∧ ¬ F k) : MS w0 F g s w' :=
  ⟨c.at_.off ho (fun k hk q => (hG k q).2 hk), c.bel.trans (ho.below c.bel.size (fun k hk => (hG k hk).1)), c.new⟩
theorem MS.below {w0 w w' : World} {F : Nat → Prop} {g : Nat} {s : St} (c : MS w0 F g s w) (hb : Below w.heap.size w w') : MS w0 F g s w' := c.off (G := fun _ => False) (Off.of_below hb) (fun _ q => q.elim)
theorem MS.fresh {w0 w : World} {F : Nat → Prop} {g : Nat} {s : St} (c : MS w0 F g s w) : ¬ F w.heap.size := fun q => by have := c.at_.lt q; omega
theorem MS.start {w : World} {n : Nat} {mx : Int} {e : Ending} {w' : World} (h : NewM w n mx e w') : ∃ g, e = .returned (.pointer (some ⟨g, 0, none⟩)) ∧ MS w (fun k => w.heap.size ≤ k ∧ k < w'.heap.size) g (newS n mx) w' := by
  obtain ⟨g, rfl, hb, c⟩ := h
  exact ⟨g, rfl, c, hb, fun k hk => hk.1⟩
theorem MS.call {w0 w : World} {F : Nat → Prop} {g : Nat} {s : St} (c : MS w0 F g s w) (cl : Cal) (hcl : cl.Ok) (hbig : s.begun < 1000000000000) : Calls Try.prog 12 #[.pointer (some ⟨g, 0, none⟩), .agg cl.arr] w fun r w' => r = .returned (.agg (doR s cl).arr) ∧ Step w0 F g (doS s cl) w w' :=
  (do_any c.at_ cl hcl hbig).mono fun r w' h => by
    obtain ⟨h1, o, F', a, hf⟩ := h
    refine ⟨h1, F' , ⟨a, c.bel.trans (o.below c.bel.size c.new), fun k hk => ?_⟩, o, hf⟩
    rcases Nat.lt_or_ge k w.heap.size with q | q
    · exact c.new k (hf k q hk)
    · exact Nat.le_trans c.bel.size q
theorem MS.at_page {w0 w : World} {F : Nat → Prop} {g : Nat} {s : St} (c : MS w0 F g s w) (k ts : Int) (h0 : 0 ≤ k) (h1 : k ≤ 65535) (h2 : 0 ≤ ts) : Calls Try.prog 16 #[.pointer (some ⟨g, 0, none⟩), .int .u16 k, .int .u32 ts] w fun r w' => r = .returned (.agg (if k < s.pages.length then atV (s.page k) ts else Ver.zero).arr) ∧ MS w0 F g s w' ∧ Below w.heap.size w w' := by
  obtain ⟨m, rfl, cm⟩ := c.at_
  have hl : m.abs.pages.length = m.ps.length := by simp [M.abs]
  by_cases h : k < m.ps.length
  · obtain ⟨j, rfl⟩ : ∃ j : Nat, k = (j : Int) := ⟨k.toNat, by omega⟩
    obtain ⟨p, hp⟩ : ∃ p, m.ps[j]? = some p := ⟨_, List.getElem?_eq_getElem (by omega)⟩
    rw [hl, if_pos h, St.page_at hp]
    exact (at_in cm j p hp ts h2).mono fun r w' q => ⟨q.1, c.below q.2, q.2⟩
  · rw [hl, if_neg h]
    exact (at_out cm k ts h0 h1 h).mono fun r w' q => ⟨q.1, c.below q.2, q.2⟩
theorem MS.last {w0 w : World} {F : Nat → Prop} {g : Nat} {s : St} (c : MS w0 F g s w) : Calls Try.prog 14 #[.pointer (some ⟨g, 0, none⟩)] w fun r w' => r = .returned (.int .u32 s.last) ∧ w' = w := last_any c.at_
/-- What doR and doS make of the fixed run. -/
def aw0 : Cal := ⟨0, 0, 0, 0, ⟨#[]⟩⟩
def aw1 : Cal := ⟨2, 1, 2, 1, ⟨#[120]⟩⟩
def aw2 : Cal := ⟨3, 1, 0, 0, ⟨#[]⟩⟩
theorem aw_ok : aw0.Ok ∧ aw1.Ok ∧ aw2.Ok := ⟨⟨by decide, by decide, by decide, by decide⟩, ⟨by decide, by decide, by decide, by decide⟩, ⟨by decide, by decide, by decide, by decide⟩⟩
def awS1 : St := { newS 3 9 with begun := 1, live := [(1, 0, [])] }
def awB : List Int := splice (zs 64) 1 [120]
def awS2 : St := { newS 3 9 with begun := 1, live := [(1, 0, [(2, awB)])] }
def awS3 : St := { newS 3 9 with begun := 1, last := 1, pages := [[Ver.zero], [Ver.zero], [Ver.zero, ⟨1, awB⟩]] }
theorem awR0 : doR (newS 3 9) aw0 = ⟨0, 1, 0, zs 64⟩ := by rfl
theorem awT0 : doS (newS 3 9) aw0 = awS1 := by rfl
theorem awR1 : doR awS1 aw1 = Rep.zero := by rfl
theorem awT1 : doS awS1 aw1 = awS2 := by rfl
theorem awR2 : doR awS2 aw2 = ⟨0, 0, 1, zs 64⟩ := by rfl
theorem awT2 : doS awS2 aw2 = awS3 := by rfl
theorem awV : atV (awS3.page 2) 1 = ⟨1, awB⟩ := by rfl
theorem awB_len : awB.length = 64 := by rfl
theorem awB_at : awB.getD 1 0 = 120 := by rfl
end Go.Proofs.Ytpncmbkklkfmnaa
