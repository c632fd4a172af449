/-
  Plain facts on a region that draws its order, and whose last operation waits for all the others: what holds of the world needs to hold until then alone. Plain facts on arrays of bytes that go as values: what a block holds, how a whole array is loaded, stored, copied and handed back. Plain facts on frames that a hand goes over: the list of them from the hand on, which one is given up, and what stays. A clock as the document tells it, and as it lies in memory; what its small calls do. Proved here: what clock.Clear does.
-/
import Derived.Test.YtehogiondcpbcaaJq00
import Derived.Test.YtehogiondcpbcaaJq06
import Derived.WalkKit
import Derived.ProofKit
import Derived.OpenShut
import Derived.ShutString
import Derived.Laws.BitsAllLaws
import Derived.Laws.BytesArg
import Derived.WalkSpells
import Derived.Laws.CopyOwn
import Derived.Laws.Rows
import Derived.Deep.RegionLaw
import Derived.Deep.WholeRow
import Derived.ChangeKeysEq
import Derived.Deep.RegionHeld
import Derived.Deep.MidRow
import Derived.Deep.CutBlock
import Derived.Deep.CutRange
import Derived.OwnWalk
import Derived.SizedLaws
import Derived.Deep.Grids
import Derived.Deep.Slices
import Derived.Lib.SmallJoins
import Derived.Carry
import Derived.Laws.AppendOwnNone
import Derived.Maps.AppendAt
namespace Go.Proofs.Ytehogiondcpbcaa
open Go.ChangeShapes Go.WideShapes Go.ChangeAt Go.RowKit
set_option linter.unusedVariables false
set_option linter.unusedSimpArgs false
set_option maxRecDepth 20000
section
variable {P : Program} {ops : Array Oper} {Q : Exit → Act → World → Prop} {md : Region.Mode} {S : World → Prop} {z : Nat}
def wpAnyL (P : Program) (md : Region.Mode) (ops : Array Oper) (Q : Exit → Act → World → Prop) (S : World → Prop) (z : Nat) : Nat → Array Bool → Act → World → Prop
  | 0, listed, a, w => Region.ready md ops listed = [] ∧ Q .normal a w
  | fuel + 1, listed, a, w =>
    (Region.ready md ops listed = [] → Q .normal a w) ∧
    ∀ i ∈ Region.ready md ops listed, wpOp P ops Q i (fun a' w' => (i ≠ z → S w') ∧ wpAnyL P md ops Q S z fuel (listed.setIfInBounds i true) a' w') a w
theorem wpAny_of_last : ∀ (fuel : Nat) (listed : Array Bool) (a : Act) (w : World), wpAnyL P md ops Q S z fuel listed a w → wpAny P md ops Q fuel listed a w
  | 0, _, _, _, h => h
  | fuel + 1, _, _, _, h => ⟨h.1, fun i hi => wpOp_mono (fun a' w' h' => wpAny_of_last fuel _ a' w' h'.2) (h.2 i hi)⟩
def waitsFor (md : Region.Mode) (ops : Array Oper) (z i : Nat) : Bool := match ops[z]? with | some oz => oz.after.any (fun e => Region.binds md e && e.on == i) | none => false
theorem open_both {listed : Array Bool} {i j : Nat} {o : Oper} (hi : i ∈ Region.ready md ops listed) (hj : j ∈ Region.ready md ops listed) (ho : ops[j]? = some o) : ∀ e ∈ o.after, Region.binds md e = true → e.on ≠ i := by
  intro e he hb q
  obtain ⟨_, o', ho', ha⟩ := mem_ready.1 hj
  cases ho.symm.trans ho'
  have h1 := ha e he hb
  have h2 := (mem_ready.1 hi).1
  rw [q] at h1
  cases hl : listed[i]? with
  | none => simp [hl] at h1
  | some y => simp [hl] at h1 h2; rw [h1] at h2; cases h2
theorem not_last {listed : Array Bool} {i j : Nat} (hz : waitsFor md ops z i = true) (hi : i ∈ Region.ready md ops listed) (hj : j ∈ Region.ready md ops listed) : j ≠ z := by
  rintro rfl
  obtain ⟨_, o, ho, _⟩ := mem_ready.1 hj
  unfold waitsFor at hz
  rw [ho] at hz
  obtain ⟨e, he, hb⟩ := Array.any_eq_true'.1 hz
  simp only [Bool.and_eq_true, beq_iff_eq] at hb
  exact open_both hi hj ho e he hb.1 hb.2
def Apart (md : Region.Mode) (ops : Array Oper) (i : Nat) (oi : Oper) (listed : Array Bool) : Prop :=
  ∀ j oj, ops[j]? = some oj → j ≠ i → listed.getD j true = false → (∀ e ∈ oj.after, Region.binds md e = true → e.on ≠ i) → oi.apart ops oj = true
theorem Apart.more {i j : Nat} {oi : Oper} {listed : Array Bool} (h : Apart md ops i oi listed) : Apart md ops i oi (listed.setIfInBounds j true) := fun k ok hk hki hun hno => by
  refine h k ok hk hki ?_ hno
  by_cases e : j = k
  · subst e
    by_cases hs : j < listed.size
    · simp [hs] at hun
    · rw [Array.setIfInBounds_eq_of_size_le (by omega)] at hun; exact hun
  · rwa [getD_set_ne true e] at hun
theorem wpAnyL_first {i : Nat} {oi : Oper} {v : Value} (hi : ops[i]? = some oi) (hz : waitsFor md ops z i = true) (hsel : ∀ (j : Nat) (o : Oper) cs b, ops[j]? = some o → o.op ≠ .select cs b)
    (hQ : ∀ c a w, Q (.panic c) (a.put oi.dst v) w → Q (.panic c) a w) (fuel : Nat) :
    ∀ (listed : Array Bool) (a : Act) (w : World), Apart md ops i oi listed → i ∈ Region.ready md ops listed → YieldsIf P ops S oi v a → S w →
      wpAnyL P md ops Q S z fuel (listed.setIfInBounds i true) (a.put oi.dst v) w → wpAnyL P md ops Q S z (fuel + 1) listed a w := by
  induction fuel with
  | zero =>
    intro listed a w _ hr hy hS H
    refine ⟨fun none => absurd (none ▸ hr) (by simp), fun j hj => ?_⟩
    rcases Decidable.em (j = i) with rfl | ne
    · exact hy.wpOp hi hS ⟨fun _ => hS, H⟩
    · exact absurd (H.1 ▸ ready_mono hj ne) (by simp)
  | succ fuel ih =>
    intro listed a w ap hr hy hS H
    refine ⟨fun none => absurd (none ▸ hr) (by simp), fun j hj => ?_⟩
    rcases Decidable.em (j = i) with rfl | ne
    · exact hy.wpOp hi hS ⟨fun _ => hS, H⟩
    · obtain ⟨un, oj, hoj, _⟩ := mem_ready.1 hj
      have step := wpOp_putIf hoj (ap j oj hoj ne un (open_both hr hj hoj)) (fun cs b => hsel i oi cs b hi) (fun cs b => hsel j oj cs b hoj) hQ hy (H.2 j (ready_mono hj ne))
      refine wpOp_mono (fun a' w' q => ⟨q.2.1, ih _ a' w' ap.more (ready_mono hr fun e => ne e.symm) q.1 (q.2.1 (not_last hz hr hj)) ?_⟩) step
      have q2 := q.2.2
      rwa [Array.setIfInBounds_comm _ _ (fun e => ne e.symm)] at q2
theorem wpAnyL_take {i : Nat} {oi : Oper} {v : Value} {fuel : Nat} {listed : Array Bool} {a : Act} {w : World} (hi : ops[i]? = some oi) (hz : waitsFor md ops z i = true)
    (hs : Region.noSelect ops = true) (hf : Region.free md ops listed i = true) (hr : (Region.ready md ops listed).contains i = true)
    (hQ : ∀ c a w, Q (.panic c) (a.put oi.dst v) w → Q (.panic c) a w) (hy : YieldsIf P ops S oi v a) (hS : S w)
    (h : wpAnyL P md ops Q S z fuel (listed.setIfInBounds i true) (a.put oi.dst v) w) : wpAnyL P md ops Q S z (fuel + 1) listed a w :=
  wpAnyL_first hi hz (Region.noSelect_spec hs) hQ fuel listed a w (fun j oj => Region.free_spec hi hf j oj) (by simpa using hr) hy hS h
def AllReadyL (P : Program) (md : Region.Mode) (ops : Array Oper) (Q : Exit → Act → World → Prop) (S : World → Prop) (z : Nat) (fuel : Nat) (listed : Array Bool) (a : Act) (w : World) (rs : List Nat) : Prop :=
  ∀ i ∈ rs, wpOp P ops Q i (fun a' w' => (i ≠ z → S w') ∧ wpAnyL P md ops Q S z fuel (listed.setIfInBounds i true) a' w') a w
theorem AllReadyL.nil {fuel : Nat} {listed : Array Bool} {a : Act} {w : World} : AllReadyL P md ops Q S z fuel listed a w [] := fun _ h => by cases h
theorem AllReadyL.cons {fuel : Nat} {listed : Array Bool} {a : Act} {w : World} {i : Nat} {o : Oper} {rs : List Nat} (ho : ops[i]? = some o)
    (h : ∀ K' : Act → World → Prop, Shut (∀ a w, (i ≠ z → S w) → wpAnyL P md ops Q S z fuel (listed.setIfInBounds i true) a w → K' a w) → if Region.wanted o (yielded ops a.tmps) = true then Oper.wp P o a w K' Q else K' (a.put o.dst undef) w)
    (hs : AllReadyL P md ops Q S z fuel listed a w rs) : AllReadyL P md ops Q S z fuel listed a w (i :: rs) := fun j hj => by
  rcases List.mem_cons.1 hj with rfl | hj
  · exact wpOp_step ho (fun K' hK => h K' (fun a w hS hW => hK a w ⟨hS, hW⟩))
  · exact hs j hj
theorem wpAnyL_ready {rs : List Nat} {fuel : Nat} {listed : Array Bool} {a : Act} {w : World} (hr : Region.ready md ops listed = rs) (hne : rs ≠ [])
    (h : AllReadyL P md ops Q S z fuel listed a w rs) : wpAnyL P md ops Q S z (fuel + 1) listed a w := ⟨fun h0 => absurd (hr ▸ h0) hne, hr ▸ h⟩
theorem wpAnyL_done {listed : Array Bool} {a : Act} {w : World} (hr : Region.ready md ops listed = []) (h : Q .normal a w) :
    ∀ fuel, wpAnyL P md ops Q S z fuel listed a w
  | 0 => ⟨hr, h⟩
  | _ + 1 => ⟨fun _ => h, by rw [hr]; simp⟩
theorem wp_region_last {id : Nat} {a : Act} {w : World} (z : Nat) (hm : P.follows .mixedOrders = true) (hS : S w.drew)
    (h : S w.drew → wpAnyL P .any ops Q S z ops.size (Array.replicate ops.size false) a w.drew) : (Code.region id ops true).wp P Q a w :=
  wp_region_any hm (wpAny_of_last _ _ _ _ (h hS))
end
end Go.Proofs.Ytehogiondcpbcaa
namespace Go.Proofs.Ytehogiondcpbcaa.Cl
open Go.ChangeShapes Go.WideShapes Go.ChangeAt Go.RowKit
set_option linter.unusedVariables false
set_option linter.unusedSimpArgs false
set_option maxRecDepth 20000
section
variable {P : Program}
end
section
variable {P : Program}
end
theorem cell_keep {w w' : World} {p : Addr} {u : Value} (h : w.cell? p = some u) (hb : Below w.heap.size w w') : w'.cell? p = some u := by
  rw [← h]
  refine World.cell?_of_block (hb.block _ ?_)
  unfold World.cell? at h
  by_cases q : p.block < w.heap.size
  · exact q
  · rw [Array.getElem?_eq_none (by omega)] at h; cases h
theorem wpList_load_any {P : Program} {ops : Array Oper} {rest : List Oper} {op : Oper} {a : Act} {w : World} {Q : Exit → Act → World → Prop} (hgd : op.guard = none) (ty : TypeId) (x : Operand) (ho : op.op = .load ty x)
    (p : Addr) (hx : a.eval x = .pointer (some p)) (cs : List Value) (d : TypeDesc) (hc : ∀ j v, cs[j]? = some v → w.cell? (p.add j) = some v)
    (hu : P.underlying ty = some d) (hd : d.isRow = true) (hi : (P.info? ty).map (·.size) = some cs.length)
    (h : wpList P ops Q rest (a.put op.dst (.agg cs.toArray)) w) : wpList P ops Q (op :: rest) a w := by
  refine wpList_plain hgd fun K hK => ?_
  have hl : (loadCells p cs.length).run P w = .ok cs.toArray w := run_loadCells_list (P := P) w p cs hc
  have hrun : (loadVar ty p).run P w = .ok (.agg cs.toArray) w := by
    cases hq : P.info? ty with
    | none => simp [hq] at hi
    | some i =>
      have hs : i.size = cs.length := by simpa [hq] using hi
      have hagg : (isAgg ty).run P w = .ok true w := by
        unfold isAgg
        rw [Sem.run_bind, run_underlying hu w]
        cases d <;> simp_all
      simp [loadVar, Sem.run_bind, hagg, sizeOf, typeInfo, hq, hs, hl]
  unfold Oper.wp execOp
  simp only [ho, hx, Instr.loadAt, Instr.sureAddr, Sem.run_bind, Sem.run_pure, Result.andThen_ok, hrun]
  exact hK _ _ h
end Go.Proofs.Ytehogiondcpbcaa.Cl
namespace Go.Proofs.Ytehogiondcpbcaa.Cl
set_option linter.unusedVariables false
set_option linter.unusedSimpArgs false
set_option maxRecDepth 20000
structure Fr where
  no : Nat
  seen : Bool
  cold : Bool
  pins : Int
def Fr.cf (x : Fr) : Bool := x.cold && decide (x.pins = 0)
def Fr.pass (x : Fr) : Fr := if x.pins = 0 then { x with seen := false } else x
def Fr.hit (x : Fr) : Prop := x.pins = 0 ∧ x.seen = false
inductive Vic : List Fr → Nat → List Fr → Prop
  | hit (x : Fr) (T : List Fr) (h : x.hit) : Vic (x :: T) x.no (T ++ [x])
  | pass (x : Fr) (T : List Fr) (v : Nat) (S : List Fr) (h : ¬ x.hit) (q : Vic (T ++ [x.pass]) v S) : Vic (x :: T) v S
def Vict (R : List Fr) (v : Nat) (ok : Bool) (S : List Fr) : Prop :=
  (∃ A x B, R = A ++ x :: B ∧ (∀ y ∈ A, y.cf = false) ∧ x.cf = true ∧ v = x.no ∧ ok = true ∧ S = B ++ (A ++ [x])) ∨
  ((∀ y ∈ R, y.cf = false) ∧ (∃ y ∈ R, y.pins = 0) ∧ Vic R v S ∧ ok = true) ∨
  ((∀ y ∈ R, y.pins ≠ 0) ∧ v = 0 ∧ ok = false ∧ S = R)
def ring (fs : List Fr) (h : Nat) : List Fr := fs.drop h ++ fs.take h
def nxt (n h : Nat) : Nat := (h + 1) % n
theorem ring_cons {fs : List Fr} {h : Nat} {x : Fr} (hx : fs[h]? = some x) : ring fs h = x :: (fs.drop (h + 1) ++ fs.take h) := by
  have hl := (List.getElem?_eq_some_iff.1 hx).1
  have e := (List.getElem?_eq_some_iff.1 hx).2
  unfold ring
  rw [List.drop_eq_getElem_cons hl, e]; rfl
theorem ring_next {fs : List Fr} {h : Nat} (hl : h < fs.length) (y : Fr) : ring (fs.set h y) (nxt fs.length h) = (fs.drop (h + 1) ++ fs.take h) ++ [y] := by
  unfold nxt
  by_cases e : h + 1 = fs.length
  · rw [e, Nat.mod_self]
    unfold ring
    rw [List.drop_zero, List.take_zero, List.append_nil, List.drop_length, List.nil_append]
    rw [List.set_eq_take_append_cons_drop, if_pos hl, e, List.drop_length]
  · rw [Nat.mod_eq_of_lt (by omega)]
    unfold ring
    rw [List.drop_set_of_lt (by omega), List.set_eq_take_append_cons_drop, if_pos hl, List.append_assoc]
    congr 1
    rw [List.take_append, List.length_take, Nat.min_eq_left (by omega), List.take_of_length_le (by rw [List.length_take]; omega), show h + 1 - h = 1 by omega]
    simp
theorem ring_turn {fs : List Fr} {h : Nat} {x : Fr} (hx : fs[h]? = some x) : ring fs (nxt fs.length h) = (fs.drop (h + 1) ++ fs.take h) ++ [x] := by
  have hl := (List.getElem?_eq_some_iff.1 hx).1
  have e := (List.getElem?_eq_some_iff.1 hx).2
  have := ring_next hl x
  rwa [← e, List.set_getElem_self, e] at this
theorem mem_ring {fs : List Fr} {h : Nat} {x : Fr} : x ∈ ring fs h ↔ x ∈ fs := by
  unfold ring
  rw [List.mem_append, or_comm, ← List.mem_append, List.take_append_drop]
theorem ring_at {fs : List Fr} {h k : Nat} (hl : h < fs.length) (hk : k < fs.length) : (ring fs h)[k]? = fs[(h + k) % fs.length]? := by
  unfold ring
  by_cases q : h + k < fs.length
  · rw [List.getElem?_append_left (by rw [List.length_drop]; omega), List.getElem?_drop, Nat.mod_eq_of_lt q]
  · rw [List.getElem?_append_right (by rw [List.length_drop]; omega), List.length_drop, List.getElem?_take, if_pos (by omega)]
    congr 1
    rw [Nat.mod_eq_sub_mod (by omega), Nat.mod_eq_of_lt (by omega)]; omega
theorem ring_length (fs : List Fr) (h : Nat) : (ring fs h).length = fs.length := by
  unfold ring
  rw [List.length_append, List.length_drop, List.length_take]; omega
theorem ring_skip {fs : List Fr} {h k : Nat} {x : Fr} (hl : h < fs.length) (hk : k < fs.length) (hx : fs[(h + k) % fs.length]? = some x) :
    ∃ A B, ring fs h = A ++ x :: B ∧ A.length = k ∧ ring fs (nxt fs.length ((h + k) % fs.length)) = B ++ (A ++ [x]) := by
  have hm : (h + k) % fs.length < fs.length := Nat.mod_lt _ (by omega)
  refine ⟨(ring fs h).take k, (ring fs h).drop (k + 1), ?_, by rw [List.length_take, ring_length]; omega, ?_⟩
  · have e := ring_at hl hk
    rw [hx] at e
    have hk' := (List.getElem?_eq_some_iff.1 e).1
    have e' := (List.getElem?_eq_some_iff.1 e).2
    rw [← e', ← List.drop_eq_getElem_cons hk', List.take_append_drop]
  · rw [ring_turn hx]
    by_cases q : h + k < fs.length
    · rw [Nat.mod_eq_of_lt q] at hx ⊢
      unfold ring
      rw [List.drop_append, List.take_append, List.length_drop, List.drop_drop, show k + 1 - (fs.length - h) = 0 by omega, show k - (fs.length - h) = 0 by omega, List.take_zero, List.append_nil, List.drop_zero]
      rw [show h + (k + 1) = h + k + 1 by omega, List.append_assoc, List.append_assoc]
      congr 1
      rw [← List.append_assoc]
      congr 1
      rw [← List.take_add]
    · have e : (h + k) % fs.length = h + k - fs.length := by rw [Nat.mod_eq_sub_mod (by omega), Nat.mod_eq_of_lt (by omega)]
      rw [e] at hx ⊢
      obtain ⟨m, hm'⟩ : ∃ m, h + k - fs.length = m := ⟨_, rfl⟩
      rw [hm'] at hx ⊢
      unfold ring
      have d1 : (fs.drop h ++ fs.take h).drop (k + 1) = (fs.take h).drop (m + 1) := by
        have d0 : (fs.drop h).drop (k + 1) = [] := List.drop_eq_nil_of_le (by rw [List.length_drop]; omega)
        rw [List.drop_append, List.length_drop, d0, List.nil_append, show k + 1 - (fs.length - h) = m + 1 by omega]
      have d2 : (fs.drop h ++ fs.take h).take k = fs.drop h ++ fs.take m := by
        rw [List.take_append, List.length_drop, List.take_of_length_le (l := fs.drop h) (by rw [List.length_drop]; omega), show k - (fs.length - h) = m by omega, List.take_take, Nat.min_eq_left (by omega)]
      rw [d1, d2]
      have e3 : fs.drop (m + 1) = (fs.take h).drop (m + 1) ++ fs.drop h := by
        conv => lhs; rw [← List.take_append_drop h fs]
        rw [List.drop_append, List.length_take, Nat.min_eq_left (by omega), show m + 1 - h = 0 by omega, List.drop_zero]
      rw [e3]
      simp
def fre (R : List Fr) : List Fr := R.filter fun x => decide (x.pins = 0)
theorem fre_append (A B : List Fr) : fre (A ++ B) = fre A ++ fre B := List.filter_append ..
theorem fre_cons_free {x : Fr} (h : x.pins = 0) (R : List Fr) : fre (x :: R) = x :: fre R := by unfold fre; rw [List.filter_cons, if_pos (by simpa using h)]
theorem fre_cons_held {x : Fr} (h : ¬ x.pins = 0) (R : List Fr) : fre (x :: R) = fre R := by unfold fre; rw [List.filter_cons, if_neg (by simpa using h)]
theorem fre_nil : fre [] = [] := rfl
theorem pass_pins (x : Fr) : x.pass.pins = x.pins := by unfold Fr.pass; split <;> rfl
theorem pass_no (x : Fr) : x.pass.no = x.no := by unfold Fr.pass; split <;> rfl
theorem pass_cold (x : Fr) : x.pass.cold = x.cold := by unfold Fr.pass; split <;> rfl
theorem pass_held {x : Fr} (h : ¬ x.pins = 0) : x.pass = x := by unfold Fr.pass; rw [if_neg h]
theorem pass_seen {x : Fr} (h : x.pins = 0) : x.pass.seen = false := by unfold Fr.pass; rw [if_pos h]
def Tail (m : Nat) (F : List Fr) : Prop := ∃ A B, F = A ++ B ∧ m ≤ B.length ∧ ∀ x ∈ B, x.seen = false
theorem Vic.keep {R : List Fr} {v : Nat} {S : List Fr} (h : Vic R v S) : (fre S).length = (fre R).length ∧ List.Perm ((fre S).map Fr.no) ((fre R).map Fr.no) ∧ ∀ y ∈ S, ∃ z ∈ R, y.cold = z.cold ∧ y.pins = z.pins ∧ y.no = z.no := by
  induction h with
  | hit x T h =>
    refine ⟨?_, ?_, fun y hy => ⟨y, by simp at hy ⊢; exact hy.symm, rfl, rfl, rfl⟩⟩
    · rw [fre_append, fre_cons_free h.1, fre_cons_free h.1, fre_nil]; simp
    · rw [fre_append, fre_cons_free h.1, fre_cons_free h.1, fre_nil, List.map_append]
      exact List.perm_append_comm
  | pass x T v S h q ih =>
    obtain ⟨i1, i2, i3⟩ := ih
    refine ⟨?_, ?_, fun y hy => ?_⟩
    · rw [i1]
      by_cases hp : x.pins = 0
      · rw [fre_append, fre_cons_free hp, fre_cons_free (by rw [pass_pins]; exact hp), fre_nil]; simp
      · rw [fre_append, fre_cons_held hp, fre_cons_held (by rw [pass_pins]; exact hp), fre_nil]; simp
    · refine i2.trans ?_
      by_cases hp : x.pins = 0
      · rw [fre_append, fre_cons_free hp, fre_cons_free (by rw [pass_pins]; exact hp), fre_nil, List.map_append, List.map_cons, pass_no]
        exact List.perm_append_comm
      · rw [fre_append, fre_cons_held hp, fre_cons_held (by rw [pass_pins]; exact hp), fre_nil, List.append_nil]
    · obtain ⟨z, hz, e1, e2, e3⟩ := i3 y hy
      rcases List.mem_append.1 hz with q | q
      · exact ⟨z, by simp [q], e1, e2, e3⟩
      · simp at q
        subst q
        exact ⟨x, by simp, e1.trans (pass_cold x), e2.trans (pass_pins x), e3.trans (pass_no x)⟩
def far : List Fr → Option Nat
  | [] => none
  | x :: T => if x.pins = 0 ∧ x.seen = false then some 0 else (far T).map (· + 1)
def firstFree : List Fr → Nat
  | [] => 0
  | x :: T => if x.pins = 0 then 0 else firstFree T + 1
def way (R : List Fr) : Nat := match far R with | some k => k | none => R.length + firstFree R
theorem far_append_some {A B : List Fr} {k : Nat} (h : far A = some k) : far (A ++ B) = some k := by
  induction A generalizing k with
  | nil => simp [far] at h
  | cons x T ih =>
    rw [List.cons_append]
    unfold far at h ⊢
    split at h
    · rename_i q; rw [if_pos q]; exact h
    · rename_i q; rw [if_neg q]
      cases e : far T with
      | none => rw [e] at h; simp at h
      | some j => rw [e] at h; rw [ih e]; exact h
theorem far_append_none {A B : List Fr} (h : far A = none) : far (A ++ B) = (far B).map (· + A.length) := by
  induction A with
  | nil => simp
  | cons x T ih =>
    rw [List.cons_append]
    unfold far at h
    split at h
    · simp at h
    · rename_i q
      have e : far T = none := by cases e : far T with
        | none => rfl
        | some j => rw [e] at h; simp at h
      have e2 : far (x :: (T ++ B)) = (far (T ++ B)).map (· + 1) := by
        conv => lhs; unfold far
        rw [if_neg q]
      rw [e2, ih e]
      cases far B with
      | none => rfl
      | some j => simp; omega
theorem firstFree_append {A B : List Fr} (h : ∃ y ∈ A, y.pins = 0) : firstFree (A ++ B) = firstFree A := by
  induction A with
  | nil => obtain ⟨y, hy, _⟩ := h; cases hy
  | cons x T ih =>
    rw [List.cons_append]
    unfold firstFree
    by_cases q : x.pins = 0
    · rw [if_pos q, if_pos q]
    · rw [if_neg q, if_neg q, ih]
      obtain ⟨y, hy, h0⟩ := h
      rcases List.mem_cons.1 hy with rfl | hy
      · exact absurd h0 q
      · exact ⟨y, hy, h0⟩
theorem way_pass {x : Fr} {T : List Fr} (h : ¬ x.hit) (hf : ∃ y ∈ x :: T, y.pins = 0) : way (T ++ [x.pass]) < way (x :: T) ∧ ∃ y ∈ T ++ [x.pass], y.pins = 0 := by
  refine ⟨?_, ?_⟩
  · have e : far (x :: T) = (far T).map (· + 1) := by
      conv => lhs; unfold far
      rw [if_neg (show ¬ (x.pins = 0 ∧ x.seen = false) from h)]
    unfold way
    rw [e]
    cases q : far T with
    | some k => rw [far_append_some q]; simp
    | none =>
      rw [far_append_none q]
      by_cases hp : x.pins = 0
      · have : far [x.pass] = some 0 := by unfold far; rw [if_pos ⟨by rw [pass_pins]; exact hp, pass_seen hp⟩]
        rw [this]; simp; omega
      · have : far [x.pass] = none := by unfold far; rw [if_neg (fun c => hp (by rw [← pass_pins]; exact c.1))]; simp [far]
        rw [this]
        simp
        have hT : ∃ y ∈ T, y.pins = 0 := by
          obtain ⟨y, hy, h0⟩ := hf
          rcases List.mem_cons.1 hy with rfl | hy
          · exact absurd h0 hp
          · exact ⟨y, hy, h0⟩
        rw [firstFree_append hT]
        conv => rhs; unfold firstFree
        rw [if_neg hp]
        omega
  · obtain ⟨y, hy, h0⟩ := hf
    rcases List.mem_cons.1 hy with rfl | hy
    · exact ⟨y.pass, by simp, by rw [pass_pins]; exact h0⟩
    · exact ⟨y, by simp [hy], h0⟩
end Go.Proofs.Ytehogiondcpbcaa.Cl
namespace Go.Proofs.Ytehogiondcpbcaa.Cl
open Go.ChangeShapes Go.WideShapes Go.ChangeAt Go.RowKit
set_option linter.unusedVariables false
set_option linter.unusedSimpArgs false
set_option maxRecDepth 20000
def fcell (x : Fr) : List Value := [.bool x.seen, .bool x.cold, .int .i64 x.pins]
def fcells (fs : List Fr) : List Value := fs.flatMap fcell
theorem fcells_cons (x : Fr) (fs : List Fr) : fcells (x :: fs) = fcell x ++ fcells fs := rfl
theorem fcells_length (fs : List Fr) : (fcells fs).length = fs.length * 3 := by
  induction fs with
  | nil => rfl
  | cons x r ih => rw [fcells_cons, List.length_append, ih]; simp [fcell]; omega
theorem fcells_at {fs : List Fr} {i : Nat} {x : Fr} (h : fs[i]? = some x) (j : Nat) (hj : j < 3) : (fcells fs)[i * 3 + j]? = (fcell x)[j]? := by
  induction fs generalizing i with
  | nil => simp at h
  | cons y r ih =>
    rw [fcells_cons]
    cases i with
    | zero =>
      simp at h
      subst h
      rw [List.getElem?_append_left (by simp [fcell]; omega)]
      simp
    | succ k =>
      rw [List.getElem?_append_right (by simp [fcell]; omega)]
      rw [show (k + 1) * 3 + j - (fcell y).length = k * 3 + j by simp [fcell]; omega]
      exact ih (by simpa using h)
theorem fcells_set {fs : List Fr} {i : Nat} {x y : Fr} (h : fs[i]? = some x) (j : Nat) (hj : j < 3) (v : Value) (e : (fcell x).set j v = fcell y) : (fcells fs).set (i * 3 + j) v = fcells (fs.set i y) := by
  induction fs generalizing i with
  | nil => simp at h
  | cons z r ih =>
    rw [fcells_cons]
    cases i with
    | zero =>
      simp at h
      subst h
      rw [List.set_append_left _ _ (by simp [fcell]; omega), List.set_cons_zero, fcells_cons, ← e]
      simp
    | succ k =>
      rw [List.set_append_right _ _ (by simp [fcell]; omega)]
      rw [show (k + 1) * 3 + j - (fcell z).length = k * 3 + j by simp [fcell]; omega]
      rw [List.set_cons_succ, fcells_cons, ih (by simpa using h)]
structure CAt (w : World) (g a : Nat) (fs : List Fr) (h : Nat) (M : Int) : Prop where
  row : Row w g #[.slice (some ⟨a, 0, none⟩) fs.length fs.length, .int .i64 h] 161
  arr : Row w a (fcells fs).toArray 158
  ne : g ≠ a
  hand : h < fs.length
  small : fs.length ≤ 64
  nos : ∀ (j : Nat) (x : Fr), fs[j]? = some x → x.no = j
  pins : ∀ x ∈ fs, 0 ≤ x.pins ∧ x.pins ≤ M
  big : M < 1000000000000
def two (g a : Nat) (k : Nat) : Prop := k = g ∨ k = a
theorem CAt.at {w : World} {g a : Nat} {fs : List Fr} {h : Nat} {M : Int} (c : CAt w g a fs h M) {i : Nat} {x : Fr} (hx : fs[i]? = some x) (j : Nat) (hj : j < 3) (v : Value) (hv : (fcell x)[j]? = some v) : w.cell? ⟨a, i * 3 + j, none⟩ = some v := by
  refine row_at c.arr _ _ ?_
  have := fcells_at hx j hj
  rw [hv] at this
  simpa using this
theorem CAt.off {F : Nat → Prop} {w w' : World} {g a : Nat} {fs : List Fr} {h : Nat} {M : Int} (c : CAt w g a fs h M) (ho : Off F w w') (hF : ∀ k, two g a k → ¬ F k) : CAt w' g a fs h M :=
  { c with row := c.row.off ho (hF _ (Or.inl rfl)), arr := c.arr.off ho (hF _ (Or.inr rfl)) }
theorem CAt.below {w w' : World} {g a : Nat} {fs : List Fr} {h : Nat} {M : Int} (c : CAt w g a fs h M) (hb : Below w.heap.size w w') : CAt w' g a fs h M :=
  c.off (F := fun _ => False) (Off.of_below hb) fun _ _ q => q
theorem CAt.lt {w : World} {g a : Nat} {fs : List Fr} {h : Nat} {M : Int} (c : CAt w g a fs h M) {k : Nat} (hk : two g a k) : k < w.heap.size := by
  rcases hk with rfl | rfl
  · exact c.row.lt
  · exact c.arr.lt
theorem CAt.turn {w : World} {g a : Nat} {fs : List Fr} {h : Nat} {M M' : Int} (c : CAt w g a fs h M) {i : Nat} {x y : Fr} (hx : fs[i]? = some x) (j : Nat) (hj : j < 3) (v : Value) (e : (fcell x).set j v = fcell y) (hn : y.no = x.no) (hM : M ≤ M') (hb : M' < 1000000000000) (hp : 0 ≤ y.pins ∧ y.pins ≤ M') :
    CAt (w.setCell ⟨a, i * 3 + j, none⟩ v) g a (fs.set i y) h M' where
  row := by rw [List.length_set]; exact row_setCell_other c.row c.ne _ _
  arr := by
    have := row_set c.arr (i * 3 + j) v
    rw [List.setIfInBounds_toArray, fcells_set hx j hj v e] at this
    exact this
  ne := c.ne
  hand := by rw [List.length_set]; exact c.hand
  small := by rw [List.length_set]; exact c.small
  nos := fun k z hz => by
    rw [List.getElem?_set] at hz
    split at hz
    · rename_i q
      subst q
      split at hz
      · simp at hz
        subst hz
        rw [hn]; exact c.nos _ _ hx
      · simp at hz
    · exact c.nos _ _ hz
  pins := fun z hz => by
    rcases List.mem_or_eq_of_mem_set hz with q | q
    · have := c.pins z q; omega
    · rw [q]; exact hp
  big := hb
theorem CAt.setHand {w : World} {g a : Nat} {fs : List Fr} {h : Nat} {M : Int} (c : CAt w g a fs h M) (h' : Nat) (hh : h' < fs.length) : CAt (w.setCell ⟨g, 1, none⟩ (.int .i64 h')) g a fs h' M :=
  { c with
    row := row_set c.row 1 _
    arr := row_setCell_other c.arr (fun e => c.ne e.symm) _ _
    hand := hh }
theorem CAt.ex {w : World} {g a : Nat} {fs : List Fr} {h : Nat} {M : Int} (c : CAt w g a fs h M) {i : Nat} (hi : i < fs.length) : ∃ x, fs[i]? = some x := ⟨fs[i], List.getElem?_eq_getElem hi⟩
theorem has_any {w : World} {g a : Nat} {fs : List Fr} {h : Nat} {M : Int} (c : CAt w g a fs h M) (i : Int) :
    Calls Try.prog 80 #[.pointer (some ⟨g, 0, none⟩), .int .i64 i] w fun e w' => e = .returned (.bool (decide (0 ≤ i ∧ i < fs.length))) ∧ w' = w := by
  have c0 := row_at c.row 0 _ rfl
  by_cases h0 : 0 ≤ i
  · have e : decide (0 ≤ i ∧ i < (fs.length : Int)) = decide (i < (fs.length : Int)) := by simp [h0]
    rw [e]
    go_enter Try.func80, Try.ntmps80
    go_wp2
    go_ret
    exact ⟨rfl, rfl⟩
  · have e : decide (0 ≤ i ∧ i < (fs.length : Int)) = false := by simp [h0]
    rw [e]
    go_enter Try.func80, Try.ntmps80
    go_wp2
    go_ret
    exact ⟨rfl, rfl⟩
theorem touch_in {w : World} {g a : Nat} {fs : List Fr} {h : Nat} {M : Int} (c : CAt w g a fs h M) (i : Nat) (x : Fr) (hx : fs[i]? = some x) :
    Calls Try.prog 47 #[.pointer (some ⟨g, 0, none⟩), .int .i64 i] w fun e w' => e = .returned (.tuple #[]) ∧ CAt w' g a (fs.set i { x with seen := true }) h (M) ∧ Off (two g a) w w' := by
  have hi := (List.getElem?_eq_some_iff.1 hx).1
  have c0 := row_at c.row 0 _ rfl
  have hh := has_any c i
  rw [decide_eq_true (⟨by omega, by omega⟩)] at hh
  have c1 := c.at hx 0 (by omega) _ rfl
  have c2 := c.at hx 1 (by omega) _ rfl
  have c3 := c.at hx 2 (by omega) _ rfl
  have f1 := row_frozen c.arr (i * 3 + 0)
  have hpb := c.pins x (List.mem_of_getElem? hx)
  have hbg := c.big
  have hn := c.turn (M' := M) (y := { x with seen := true }) hx 0 (by omega) (.bool true) rfl rfl (by omega) (c.big) (c.pins x (List.mem_of_getElem? hx))
  have ho := Off.of_setCell (F := two g a) w ⟨a, i * 3 + 0, none⟩ (.bool true) (Or.inr rfl)
  clear hpb hbg
  simp only [Nat.add_zero] at c1 f1 hn ho
  go_enter Try.func47, Try.ntmps47
  go_wp2_with (go_at_call 80; refine hh.mono ?_; rintro e w' ⟨rfl, rfl⟩)
  first
    | (go_end0; exact ⟨rfl, hn, ho⟩)
    | (refine bodyPost_ret (results_none rfl _ _ _) rfl ?_; exact ⟨rfl, hn, ho⟩)
theorem cold_in {w : World} {g a : Nat} {fs : List Fr} {h : Nat} {M : Int} (c : CAt w g a fs h M) (i : Nat) (x : Fr) (hx : fs[i]? = some x) (b : Bool) :
    Calls Try.prog 69 #[.pointer (some ⟨g, 0, none⟩), .int .i64 i, .bool b] w fun e w' => e = .returned (.tuple #[]) ∧ CAt w' g a (fs.set i { x with cold := b }) h (M) ∧ Off (two g a) w w' := by
  have hi := (List.getElem?_eq_some_iff.1 hx).1
  have c0 := row_at c.row 0 _ rfl
  have hh := has_any c i
  rw [decide_eq_true (⟨by omega, by omega⟩)] at hh
  have c1 := c.at hx 0 (by omega) _ rfl
  have c2 := c.at hx 1 (by omega) _ rfl
  have c3 := c.at hx 2 (by omega) _ rfl
  have f1 := row_frozen c.arr (i * 3 + 1)
  have hpb := c.pins x (List.mem_of_getElem? hx)
  have hbg := c.big
  have hn := c.turn (M' := M) (y := { x with cold := b }) hx 1 (by omega) (.bool b) rfl rfl (by omega) (c.big) (c.pins x (List.mem_of_getElem? hx))
  have ho := Off.of_setCell (F := two g a) w ⟨a, i * 3 + 1, none⟩ (.bool b) (Or.inr rfl)
  clear hpb hbg
  go_enter Try.func69, Try.ntmps69
  go_wp2_with (go_at_call 80; refine hh.mono ?_; rintro e w' ⟨rfl, rfl⟩)
  first
    | (go_end0; exact ⟨rfl, hn, ho⟩)
    | (refine bodyPost_ret (results_none rfl _ _ _) rfl ?_; exact ⟨rfl, hn, ho⟩)
theorem pin_in {w : World} {g a : Nat} {fs : List Fr} {h : Nat} {M : Int} (c : CAt w g a fs h M) (i : Nat) (x : Fr) (hx : fs[i]? = some x) (hM : M + 1 < 1000000000000) :
    Calls Try.prog 48 #[.pointer (some ⟨g, 0, none⟩), .int .i64 i] w fun e w' => e = .returned (.tuple #[]) ∧ CAt w' g a (fs.set i { x with pins := x.pins + 1 }) h (M + 1) ∧ Off (two g a) w w' := by
  have hi := (List.getElem?_eq_some_iff.1 hx).1
  have c0 := row_at c.row 0 _ rfl
  have hh := has_any c i
  rw [decide_eq_true (⟨by omega, by omega⟩)] at hh
  have c1 := c.at hx 0 (by omega) _ rfl
  have c2 := c.at hx 1 (by omega) _ rfl
  have c3 := c.at hx 2 (by omega) _ rfl
  have f1 := row_frozen c.arr (i * 3 + 2)
  have hpb := c.pins x (List.mem_of_getElem? hx)
  have hbg := c.big
  have hw : IntKind.i64.wrap (x.pins + 1) = x.pins + 1 := by rw [IntKind.wrap_i64]; omega
  have hn := c.turn (M' := M + 1) (y := { x with pins := x.pins + 1 }) hx 2 (by omega) (.int .i64 (x.pins + 1)) rfl rfl (by omega) (hM) (by show 0 ≤ x.pins + 1 ∧ x.pins + 1 ≤ M + 1; omega)
  have ho := Off.of_setCell (F := two g a) w ⟨a, i * 3 + 2, none⟩ (.int .i64 (x.pins + 1)) (Or.inr rfl)
  clear hpb hbg
  go_enter Try.func48, Try.ntmps48
  go_wp2_with (go_at_call 80; refine hh.mono ?_; rintro e w' ⟨rfl, rfl⟩)
  first
    | (go_end0; exact ⟨rfl, hn, ho⟩)
    | (refine bodyPost_ret (results_none rfl _ _ _) rfl ?_; exact ⟨rfl, hn, ho⟩)
theorem unpin_zero (v : Value) (i : Int) (w : World) (hh : Calls Try.prog 58 #[v, .int .i64 i] w fun e w' => e = .returned (.int .i64 0) ∧ w' = w) :
    Calls Try.prog 57 #[v, .int .i64 i] w fun e w' => e = .returned (.bool false) ∧ w' = w := by
  go_enter Try.func57, Try.ntmps57
  go_wp2_with (go_at_call 58; refine hh.mono ?_; rintro e w' ⟨rfl, rfl⟩)
  go_ret
  exact ⟨rfl, rfl⟩
theorem pins_in {w : World} {g a : Nat} {fs : List Fr} {h : Nat} {M : Int} (c : CAt w g a fs h M) (i : Nat) (x : Fr) (hx : fs[i]? = some x) :
    Calls Try.prog 58 #[.pointer (some ⟨g, 0, none⟩), .int .i64 i] w fun e w' => e = .returned (.int .i64 x.pins) ∧ w' = w := by
  have hi := (List.getElem?_eq_some_iff.1 hx).1
  have c0 := row_at c.row 0 _ rfl
  have hh := has_any c i
  rw [decide_eq_true (⟨by omega, by omega⟩)] at hh
  have c3 := c.at hx 2 (by omega) _ rfl
  go_enter Try.func58, Try.ntmps58
  go_wp2_with (go_at_call 80; refine hh.mono ?_; rintro e w' ⟨rfl, rfl⟩)
  go_ret
  exact ⟨rfl, rfl⟩
theorem unpin_in {w : World} {g a : Nat} {fs : List Fr} {h : Nat} {M : Int} (c : CAt w g a fs h M) (i : Nat) (x : Fr) (hx : fs[i]? = some x) (h0 : ¬ x.pins = 0) :
    Calls Try.prog 57 #[.pointer (some ⟨g, 0, none⟩), .int .i64 i] w fun e w' => e = .returned (.bool true) ∧ CAt w' g a (fs.set i { x with pins := x.pins - 1 }) h M ∧ Off (two g a) w w' := by
  have hi := (List.getElem?_eq_some_iff.1 hx).1
  have c0 := row_at c.row 0 _ rfl
  have hh := pins_in c i x hx
  have c3 := c.at hx 2 (by omega) _ rfl
  have f1 := row_frozen c.arr (i * 3 + 2)
  have hpb := c.pins x (List.mem_of_getElem? hx)
  have hbg := c.big
  have hw : IntKind.i64.wrap (x.pins - 1) = x.pins - 1 := by rw [IntKind.wrap_i64]; omega
  have hn := c.turn (M' := M) (y := { x with pins := x.pins - 1 }) hx 2 (by omega) (.int .i64 (x.pins - 1)) rfl rfl (by omega) c.big (by show 0 ≤ x.pins - 1 ∧ x.pins - 1 ≤ M; omega)
  have ho := Off.of_setCell (F := two g a) w ⟨a, i * 3 + 2, none⟩ (.int .i64 (x.pins - 1)) (Or.inr rfl)
  clear hpb hbg
  go_enter Try.func57, Try.ntmps57
  go_wp2_with (go_at_call 58; refine hh.mono ?_; rintro e w' ⟨rfl, rfl⟩)
  go_ret
  exact ⟨rfl, hn, ho⟩
theorem behind_any {w : World} {g a : Nat} {fs : List Fr} {h : Nat} {M : Int} (c : CAt w g a fs h M) (i : Nat) (hi : i < fs.length) :
    Calls Try.prog 106 #[.pointer (some ⟨g, 0, none⟩), .int .i64 i] w fun e w' => e = .returned (.int .i64 (nxt fs.length i)) ∧ w' = w := by
  have c0 := row_at c.row 0 _ rfl
  have hs := c.small
  have hl : (0 : Int) < fs.length := by omega
  have hw : IntKind.i64.wrap ((i : Int) + 1) = (i : Int) + 1 := by rw [IntKind.wrap_i64]; omega
  have hm : ((i : Int) + 1).tmod (fs.length : Int) = (nxt fs.length i : Nat) := by
    rw [Int.tmod_eq_emod_of_nonneg (by omega)]
    unfold nxt
    push_cast
    rfl
  have hw2 : IntKind.i64.wrap ((nxt fs.length i : Nat) : Int) = (nxt fs.length i : Nat) := by
    have : nxt fs.length i < fs.length := Nat.mod_lt _ (by omega)
    rw [IntKind.wrap_i64]; omega
  go_enter Try.func106, Try.ntmps106
  go_wp2
  go_ret
  exact ⟨rfl, rfl⟩
theorem used_any {w : World} {g a : Nat} {fs : List Fr} {h : Nat} {M : Int} (c : CAt w g a fs h M) (i : Nat) (x : Fr) (hx : fs[i]? = some x) :
    Calls Try.prog 107 #[.pointer (some ⟨g, 0, none⟩), .int .i64 i] w fun e w' => e = .returned (.bool x.seen) ∧ CAt w' g a (fs.set i { x with seen := false }) h M ∧ Off (two g a) w w' := by
  have hi := (List.getElem?_eq_some_iff.1 hx).1
  have c0 := row_at c.row 0 _ rfl
  have c1 := c.at hx 0 (by omega) _ rfl
  have f1 := row_frozen c.arr (i * 3 + 0)
  have hn := c.turn (M' := M) (y := { x with seen := false }) hx 0 (by omega) (.bool false) rfl rfl (by omega) c.big (c.pins x (List.mem_of_getElem? hx))
  have ho := Off.of_setCell (F := two g a) w ⟨a, i * 3 + 0, none⟩ (.bool false) (Or.inr rfl)
  simp only [Nat.add_zero] at c1 f1 hn ho
  go_enter Try.func107, Try.ntmps107
  go_wp2
  go_ret
  exact ⟨rfl, hn, ho⟩
end Go.Proofs.Ytehogiondcpbcaa.Cl
namespace Go.Proofs.Ytehogiondcpbcaa.Cl
open Go.ChangeShapes Go.WideShapes Go.ChangeAt Go.RowKit
set_option linter.unusedVariables false
set_option linter.unusedSimpArgs false
set_option maxRecDepth 20000
theorem step_of {P : Program} {ops : Array Oper} {o : Oper} {a : Act} {w : World} {K : Act → World → Prop} {Q : Exit → Act → World → Prop} {E : Prop} (hgd : o.guard = none) (h : Oper.wp P o a w K Q) :
    if Region.wanted o (yielded ops a.tmps) = true then Oper.wp P o a w K Q else E := by
  rw [if_pos (by simp [Region.wanted, hgd])]; exact h
theorem built158 (z : Int) : (Try.prog.built 158 [(2, .int .i64 z)]) = some #[.bool false, .bool false, .int .i64 z] := by kernel_rfl
theorem size158 : (Try.prog.info? 158).map (·.size) = some 3 := by kernel_rfl
theorem CAt.drew {w : World} {g a : Nat} {fs : List Fr} {h : Nat} {M : Int} (c : CAt w g a fs h M) : CAt w.drew g a fs h M := c.below (Below.refl _ _).drew
theorem CAt.there {w : World} {g a : Nat} {fs : List Fr} {h : Nat} {M : Int} (c : CAt w g a fs h M) {i : Nat} {x : Fr} (hx : fs[i]? = some x) : w.there a (i * 3) 3 := fun j hj => by
  have hl : (fcell x)[j]? = some ((fcell x)[j]'(by simpa [fcell] using hj)) := List.getElem?_eq_getElem _
  exact ⟨by rw [c.at hx j hj _ hl]; rfl, row_frozen c.arr _⟩
set_option maxHeartbeats 1000000 in
theorem clear_in {w : World} {g a : Nat} {fs : List Fr} {h : Nat} {M : Int} (c : CAt w g a fs h M) (i : Nat) (x : Fr) (hx : fs[i]? = some x) :
    Calls Try.prog 79 #[.pointer (some ⟨g, 0, none⟩), .int .i64 i] w fun e w' => e = .returned (.tuple #[]) ∧ CAt w' g a (fs.set i { x with seen := false, cold := false }) h M ∧ Off (two g a) w w' := by
  have hi := (List.getElem?_eq_some_iff.1 hx).1
  have hi' : (i : Int) < fs.length := by omega
  have hh := has_any c i
  rw [decide_eq_true (⟨by omega, by omega⟩)] at hh
  go_enter Try.func79, Try.ntmps79
  go_upto_region 1 with (go_at_call 80; refine hh.mono ?_; rintro e wa ⟨he, hww⟩; rw [hww]; clear hww wa; obtain rfl := he)
  have cd := c.drew
  refine wp_region_held_drew (S := fun w' => Row w' g #[.slice (some ⟨a, 0, none⟩) fs.length fs.length, .int .i64 h] 161 ∧ w'.cell? ⟨a, i * 3 + 2, none⟩ = some (.int .i64 x.pins)) (by kernel_rfl) ⟨cd.row, cd.at hx 2 (by omega) _ rfl⟩ fun hS => ?_
  refine tkI (i := 0) (v := .pointer (some ⟨g, 0, none⟩)) rfl (by kernel_rfl) (Or.inl ⟨by rfl, fun w _ => by rfl⟩) hS ?_
  try simp only [Act.put, nz]
  refine tkI (i := 1) (v := .pointer (some ⟨g, 0, none⟩)) rfl (by kernel_rfl) (Or.inl ⟨by rfl, fun w _ => by go_simp⟩) hS ?_
  try simp only [Act.put, nz]
  refine tkI (i := 2) (v := .pointer (some ⟨g, 0, none⟩)) rfl (by kernel_rfl) (Or.inl ⟨by rfl, fun w _ => by go_simp⟩) hS ?_
  try simp only [Act.put, nz]
  refine tkI (i := 3) (v := .slice (some ⟨a, 0, none⟩) fs.length fs.length) rfl (by kernel_rfl) (Or.inl ⟨by rfl, fun w h => by have c := row_at h.1 0 _ rfl; go_simp⟩) hS ?_
  try simp only [Act.put, nz]
  refine tkI (i := 4) (v := .int .i64 (i : Nat)) rfl (by kernel_rfl) (Or.inl ⟨by rfl, fun w _ => by rfl⟩) hS ?_
  try simp only [Act.put, nz]
  refine tkI (i := 5) (v := .pointer (some ⟨g, 0, none⟩)) rfl (by kernel_rfl) (Or.inl ⟨by rfl, fun w _ => by rfl⟩) hS ?_
  try simp only [Act.put, nz]
  refine tkI (i := 6) (v := .pointer (some ⟨g, 0, none⟩)) rfl (by kernel_rfl) (Or.inl ⟨by rfl, fun w _ => by go_simp⟩) hS ?_
  try simp only [Act.put, nz]
  refine tkI (i := 7) (v := .pointer (some ⟨g, 0, none⟩)) rfl (by kernel_rfl) (Or.inl ⟨by rfl, fun w _ => by go_simp⟩) hS ?_
  try simp only [Act.put, nz]
  refine tkI (i := 8) (v := .slice (some ⟨a, 0, none⟩) fs.length fs.length) rfl (by kernel_rfl) (Or.inl ⟨by rfl, fun w h => by have c := row_at h.1 0 _ rfl; go_simp⟩) hS ?_
  try simp only [Act.put, nz]
  refine tkI (i := 9) (v := .int .i64 (i : Nat)) rfl (by kernel_rfl) (Or.inl ⟨by rfl, fun w _ => by rfl⟩) hS ?_
  try simp only [Act.put, nz]
  refine tkI (i := 10) (v := .pointer (some ⟨a, i * 3, none⟩)) rfl (by kernel_rfl) (Or.inl ⟨by rfl, fun w _ => by go_simp⟩) hS ?_
  try simp only [Act.put, nz]
  refine tkI (i := 11) (v := .pointer (some ⟨a, i * 3 + 2, none⟩)) rfl (by kernel_rfl) (Or.inl ⟨by rfl, fun w _ => by go_simp⟩) hS ?_
  try simp only [Act.put, nz]
  refine tkI (i := 12) (v := .int .i64 x.pins) rfl (by kernel_rfl) (Or.inl ⟨by rfl, fun w h => by have c := h.2; go_simp⟩) hS ?_
  try simp only [Act.put, nz]
  refine tkI (i := 13) (v := .agg #[.bool false, .bool false, .int .i64 x.pins]) rfl (by kernel_rfl) (yields_build (by rfl) 158 #[(2, .tmp 19)] rfl [(2, .int .i64 x.pins)] (by rfl) _ (built158 _)) hS ?_
  try simp only [Act.put, nz]
  refine tkI (i := 14) (v := .pointer (some ⟨a, i * 3, none⟩)) rfl (by kernel_rfl) (Or.inl ⟨by rfl, fun w _ => by go_simp⟩) hS ?_
  try simp only [Act.put, nz]
  refine wpAnyH_ready (rs := [15]) (by kernel_rfl) (by simp) ?_
  have hp := c.pins x (List.mem_of_getElem? hx)
  have t1 := cd.turn (M' := M) (y := { x with seen := false }) hx 0 (by omega) (.bool false) rfl rfl (by omega) c.big hp
  have t2 := t1.turn (M' := M) (i := i) (x := { x with seen := false }) (y := { x with seen := false, cold := false }) (by simp [hi]) 1 (by omega) (.bool false) rfl rfl (by omega) c.big hp
  have t3 := t2.turn (M' := M) (i := i) (x := { x with seen := false, cold := false }) (y := { x with seen := false, cold := false }) (by simp [hi]) 2 (by omega) (.int .i64 x.pins) rfl rfl (by omega) c.big hp
  rw [List.set_set, List.set_set] at t3
  have o3 : Off (two g a) w (((w.drew.setCell ⟨a, i * 3, none⟩ (.bool false)).setCell ⟨a, i * 3 + 1, none⟩ (.bool false)).setCell ⟨a, i * 3 + 2, none⟩ (.int .i64 x.pins)) :=
    (((Off.refl (two g a) w).drew.trans (Off.of_setCell (F := two g a) _ _ _ (Or.inr rfl)) (fun _ q => Or.inl q)).trans (Off.of_setCell (F := two g a) _ _ _ (Or.inr rfl)) (fun _ q => Or.inl q)).trans (Off.of_setCell (F := two g a) _ _ _ (Or.inr rfl)) (fun _ q => Or.inl q)
  refine AllReadyH.cons rfl (fun K hK => step_of rfl (wp_store_mid 158 (.tmp 21) (.tmp 20) rfl a (i * 3) #[.bool false, .bool false, .int .i64 x.pins] rfl rfl (cd.there hx) size158 (by simp [Value.oneCell']) (hK.out _ _ ⟨by have := t3.row; rwa [List.length_set] at this, t3.at (x := { x with seen := false, cold := false }) (by simp [hi]) 2 (by omega) _ rfl⟩ fun hS => ?_))) AllReadyH.nil
  try simp only [Act.put, nz]
  refine wpAnyH_done (by kernel_rfl) ?_ _
  go_wp2
  first
    | (go_end0; exact ⟨rfl, t3, o3⟩)
    | (refine bodyPost_ret (results_none rfl _ _ _) rfl ?_; exact ⟨rfl, t3, o3⟩)
end Go.Proofs.Ytehogiondcpbcaa.Cl
