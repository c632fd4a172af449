/-
  Proved here: the trial of a set of which one page is written once more, walked.
-/
import Derived.Test.YtmnbfcmamhinbabWsq
import Derived.Deep.RegionHeld
import Derived.BigQuiet
import Derived.Deep.QuietTactic
namespace Go.Proofs.Ytmnbfcmamhinbab.Ws
open Go.ChangeShapes Go.WideShapes Go.ChangeAt Go.RowKit
open Go.Deep Go.Maps
set_option linter.unusedVariables false
set_option linter.unusedSimpArgs false

theorem yields_neq {P : Program} {ops : Array Oper} {S : World → Prop} {o : Oper} {a : Act} (hw : Region.wanted o (yielded ops a.tmps) = true) (ty ty' : TypeId) (x y : Operand) (ho : o.op = .binOp .neq ty x y ty')
    (xs ys : Array Value) (hx : a.eval x = .agg xs) (hy : a.eval y = .agg ys) (hm : P.eqGuardType P.depth ty = false) (b : Bool) (hr : ∀ w, (Op.equalIn 10000 ty (.agg xs) (.agg ys)).run P w = .ok b w) : YieldsIf P ops S o (.bool (!b)) a := by
  refine Or.inl ⟨hw, fun w hS => ?_⟩
  unfold execOp
  simp only [ho, hx, hy, Sem.run_bind, run_eqGuard_agg w .neq ty x y xs ys hm, Result.andThen_ok, run_neq_struct, hr, Sem.run_pure]
theorem yields_any {P : Program} {ops : Array Oper} {S : World → Prop} {op : Oper} {a : Act} (hw : Region.wanted op (yielded ops a.tmps) = true) (ty : TypeId) (x : Operand) (ho : op.op = .load ty x)
    (p : Addr) (hx : a.eval x = .pointer (some p)) (cs : List Value) {d : TypeDesc} (hc : ∀ w, S w → ∀ j v, cs[j]? = some v → w.cell? (p.add j) = some v)
    (hu : P.underlying ty = some d) (hd : d.isRow = true) (hi : (P.info? ty).map (·.size) = some cs.length) : YieldsIf P ops S op (.agg cs.toArray) a := by
  refine Or.inl ⟨hw, fun w hS => ?_⟩
  have hl : (loadCells p cs.length).run P w = .ok cs.toArray w := run_loadCells_list (P := P) w p cs (hc w hS)
  have hrun : (loadVar ty p).run P w = .ok (.agg cs.toArray) w := by
    cases hq : P.info? ty with
    | none => simp [hq] at hi
    | some i =>
      have hs : i.size = cs.length := by simpa [hq] using hi
      have hagg : (isAgg ty).run P w = .ok true w := by
        unfold isAgg
        rw [Sem.run_bind, run_underlying hu w]
        cases d <;> simp_all
      simp [loadVar, Sem.run_bind, hagg, sizeOf, typeInfo, hq, hs, hl]
  unfold execOp
  simp only [ho, hx, Instr.loadAt, Instr.sureAddr, Sem.run_bind, Sem.run_pure, Result.andThen_ok, hrun]
theorem add_zero (a : Addr) : a.add 0 = a := by unfold Addr.add; split <;> simp_all
theorem add_sp (p : Addr) (k : Nat) (h : k ≠ 0) : p.add k = ⟨p.block, p.off + k, none⟩ := by unfold Addr.add; rw [if_neg h]
theorem Wo.c0 (o : Wo) : o.cells[0]? = some (.int .u16 o.pg) := rfl
theorem Wo.c1 (o : Wo) (ho : o.b.length = 64) (j : Nat) (u : Value) (h : (o.b.map (Value.int .u8))[j]? = some u) : o.cells[1 + j]? = some u := by
  have hj : j < o.b.length := by have := (List.getElem?_eq_some_iff.1 h).1; simpa using this
  unfold Wo.cells
  rw [Nat.add_comm, List.getElem?_cons_succ, List.getElem?_append_left (by rw [List.length_map]; exact hj)]
  exact h
theorem Wo.c65 (o : Wo) (ho : o.b.length = 64) : o.cells[65]? = some (.int .i64 o.off) := by
  unfold Wo.cells
  rw [List.getElem?_cons_succ, List.getElem?_append_right (by rw [List.length_map, ho]; omega), List.length_map, ho]; rfl
theorem Wo.c66 (o : Wo) (ho : o.b.length = 64) : o.cells[66]? = some (.string o.t) := by
  unfold Wo.cells
  rw [List.getElem?_cons_succ, List.getElem?_append_right (by rw [List.length_map, ho]; omega), List.length_map, ho]; rfl
theorem UAtb {w w' : World} {g : Nat} {cur : Array Value} {xs : List Int} (h : S2.UAt w g cur xs) {B : Nat} (hb : Below B w w') (hg : g < B) : S2.UAt w' g cur xs := ⟨h.row.below hb hg, h.pre⟩
theorem nowP_len {ys : List Int} (h : Wr ys) : (nowP ys).length = 64 := by unfold nowP; rw [List.length_take, List.length_drop, h.1]; omega
theorem op_at {w : World} {N : Nat} {OA : Array Value} {o : Wo} (h : Row w N OA 44) (e : o.cells.toArray = OA) (ho : o.b.length = 64) :
    w.cell? ⟨N, 0, none⟩ = some (.int .u16 o.pg) ∧ (∀ j u, (o.b.map (Value.int .u8))[j]? = some u → w.cell? ((⟨N, 1, none⟩ : Addr).add j) = some u) ∧ w.cell? ⟨N, 65, none⟩ = some (.int .i64 o.off) ∧ w.cell? ⟨N, 66, none⟩ = some (.string o.t) := by
  subst e
  refine ⟨row_at h 0 _ (by rw [List.getElem?_toArray]; exact o.c0), fun j u hj => ?_, row_at h 65 _ (by rw [List.getElem?_toArray]; exact o.c65 ho), row_at h 66 _ (by rw [List.getElem?_toArray]; exact o.c66 ho)⟩
  rw [Addr.add_mid]
  exact row_at h (1 + j) _ (by rw [List.getElem?_toArray]; exact o.c1 ho j u hj)
theorem Row.ne' {w : World} {g : Nat} {cs ds : Array Value} {t u : TypeId} (h : Row w g cs t) (h' : Row w g ds u) (hn : t ≠ u) : False := by
  unfold Row at h h'
  rw [h] at h'
  simp at h'
  exact hn h'.2
theorem row_map {w : World} {g n : Nat} {cs : Array Value} {t : TypeId} {D : DataW (List Int)} (h : Row w g cs t) (h' : w.ownsMap Try.prog 40 wrR g n D) : False := by
  obtain ⟨es, clock, hb, _⟩ := h'
  unfold Row at h
  rw [h] at hb
  cases hb
theorem eqg42 : Try.prog.eqGuardType Try.prog.depth 42 = false := by kernel_rfl
theorem nums_getD (t : ByteArray) (j : Nat) (h : j < t.size) : (nums t).getD j 0 = ((t[j]).toNat : Int) := by
  unfold nums
  have h2 : j < t.data.size := h
  simp only [List.getD, List.getElem?_map, Array.getElem?_toList, Array.getElem?_eq_getElem h2]
  rfl
theorem below_drewN0 {B : Nat} {a b : World} (h : Below B a b) (n : Nat) : Below B a (b.drewN n) := h.trans ⟨rfl, rfl, rfl, Nat.le_refl _, fun _ _ => rfl⟩
theorem wp_copy' {T : Value → World → Prop} {w : World} {o : Oper} {a : Act} {K : Act → World → Prop} {Q : Exit → Act → World → Prop} (s x : Operand) (t : TypeId)
    (ho : o.op = .call { callee := .builtin .append, args := #[s, x], argTypes := #[t, t] }) (sv v : Value) (hs : a.eval s = sv) (hx : a.eval x = v)
    (hr : ∀ ty, ∃ v' w', (Builtin.append_ #[t, t] ty #[sv, v]).run Try.prog w = .ok v' w' ∧ T v' w')
    (h : ∀ v' w', T v' w' → K (a.put o.dst v') w') : Oper.wp Try.prog o a w K Q := by
  obtain ⟨v', w', hrun, hT⟩ := hr o.type
  unfold Oper.wp
  simp [execOp, ho, resolve, invoke, builtin, hs, hx, hrun, Result.andThen]
  exact h v' w' hT
theorem wpList_copy' {T : Value → World → Prop} {w : World} {ops : Array Oper} {rest : List Oper} {o : Oper} {a : Act} {Q : Exit → Act → World → Prop} (hgd : o.guard = none) (s x : Operand) (t : TypeId)
    (ho : o.op = .call { callee := .builtin .append, args := #[s, x], argTypes := #[t, t] }) (sv v : Value) (hs : a.eval s = sv) (hx : a.eval x = v)
    (hr : ∀ ty, ∃ v' w', (Builtin.append_ #[t, t] ty #[sv, v]).run Try.prog w = .ok v' w' ∧ T v' w')
    (h : ∀ v' w', T v' w' → wpList Try.prog ops Q rest (a.put o.dst v') w') : wpList Try.prog ops Q (o :: rest) a w := by
  refine wpList_plain hgd fun K hK => ?_
  obtain ⟨v', w', hrun, hT⟩ := hr o.type
  unfold Oper.wp
  simp [execOp, ho, resolve, invoke, builtin, hs, hx, hrun, Result.andThen]
  exact hK _ _ (h v' w' hT)
set_option maxHeartbeats 8000000 in
set_option maxRecDepth 20000 in
theorem apartWalk (w : World) (v : Value) (os : List Wo) (o : Wo) (h : Ops w v os) (ho : o.Ok) :
    Calls Try.prog 8 #[v, .agg o.cells.toArray] w fun e w' => e = .returned (.bool true) ∧ Below w.heap.size w w' := by
  obtain ⟨oa, cap, rfl, hlen, hcs⟩ := h
  have HCS : Hid _ := hcs
  have HO : Hid o.Ok := ho
  clear hcs ho
  obtain ⟨n, HN⟩ : ∃ n, Hid (os.length = n) := ⟨_, rfl⟩
  rw [HN.out] at HCS hlen ⊢
  obtain ⟨OA, HOA⟩ : ∃ OA, Hid (o.cells.toArray = OA) := ⟨_, rfl⟩
  rw [HOA.out]
  have r0 : Row (w.alloc (.cells OA 44)) w.heap.size OA 44 := Row.new _ _ _
  have ab : Below w.heap.size w (w.alloc (.cells OA 44)) := (Below.refl _ _).alloc (Nat.le_refl _) _
  have hnew := new_any (w.alloc (.cells OA 44))
  go_enter Try.func8, Try.ntmps8
  go_wp2_with (go_at_call 15; refine hnew.mono ?_; clear hnew; rintro e w1 ⟨s, rfl, hs, m, hm, c1, b1⟩)
  have HSM : Hid (w.heap.size < s ∧ w.heap.size < m) := by simp at hs hm; exact ⟨hs, hm⟩
  have r1 := r0.below b1 r0.lt
  have b2 := ab.trans (b1.mono ab.size)
  clear hs hm r0 ab b1
  go_loopw [6] (fun d wr => ∃ (i : Nat) (L : List (Int × List Int)), d = .int .i64 i ∧ i ≤ 30 ∧ i ≤ n ∧ SAt wr s m L ∧ Below w.heap.size w wr ∧ Row wr w.heap.size OA 44) (fun d _ => 30 - (intOf d).toNat)
  case atStart => exact ⟨0, [], rfl, by omega, by omega, c1, b2, r1⟩
  case round =>
    clear c1 b2 r1
    obtain ⟨i, L, rfl, hi30, hin, c1, b1, r1⟩ := hrel
    by_cases hgo : i < n ∧ i < 30
    · obtain ⟨g1, g2⟩ := hgo
      have g1' : (i : Int) < (n : Int) := by omega
      have g2' : (i : Int) < 30 := by omega
      obtain ⟨A, x, rfl, _, HOK', hcell⟩ := HCS.out i g1
      have HOK : Hid x.Ok := HOK'
      clear HOK'
      have HB0 : Hid (∀ w', Below w.heap.size w w' → w'.cell? (A.add (i * 67)) = some (.int .u16 x.pg)) := fun w' hb => by have := hcell 0 _ x.c0; rw [add_zero] at this; exact cell_keep this hb
      have HB1 : Hid (∀ w', Below w.heap.size w w' → ∀ j u, (x.b.map (Value.int .u8))[j]? = some u → w'.cell? (((A.add (i * 67)).add 1).add j) = some u) := fun w' hb j u hj => by have := hcell (1 + j) u (x.c1 HOK.out.2.1 j u hj); rw [← add_add] at this; exact cell_keep this hb
      have HB65 : Hid (∀ w', Below w.heap.size w w' → w'.cell? ((A.add (i * 67)).add 65) = some (.int .i64 x.off)) := fun w' hb => cell_keep (hcell 65 _ (x.c65 HOK.out.2.1)) hb
      have HB66 : Hid (∀ w', Below w.heap.size w w' → w'.cell? ((A.add (i * 67)).add 66) = some (.string x.t)) := fun w' hb => cell_keep (hcell 66 _ (x.c66 HOK.out.2.1)) hb
      clear hcell
      have hwr := write_any (c1.below (Below.refl _ _).drew) x HOK.out
      go_upto_region 7 with fail
      refine wp_region_held_drew (S := fun w' => Below w.heap.size w w') (by kernel_rfl) b1.drew fun hS => ?_
      refine wpAnyH_take (i := 0) (v := .pointer (some ⟨s, 0, none⟩)) rfl (by kernel_rfl) (by kernel_rfl) (by kernel_rfl) (fun _ _ _ h => h) (Or.inl ⟨by rfl, fun w _ => by go_simp⟩) hS ?_
      try simp only [Act.put, List.getElem_toArray, List.getElem_cons_zero, List.getElem_cons_succ, List.setIfInBounds_toArray, List.set_cons_zero, List.set_cons_succ]
      refine wpAnyH_take (i := 1) (v := .slice (some A) n cap) rfl (by kernel_rfl) (by kernel_rfl) (by kernel_rfl) (fun _ _ _ h => h) (Or.inl ⟨by rfl, fun w _ => by go_simp⟩) hS ?_
      try simp only [Act.put, List.getElem_toArray, List.getElem_cons_zero, List.getElem_cons_succ, List.setIfInBounds_toArray, List.set_cons_zero, List.set_cons_succ]
      refine wpAnyH_take (i := 2) (v := .int .i64 i) rfl (by kernel_rfl) (by kernel_rfl) (by kernel_rfl) (fun _ _ _ h => h) (Or.inl ⟨by rfl, fun w _ => by go_simp⟩) hS ?_
      try simp only [Act.put, List.getElem_toArray, List.getElem_cons_zero, List.getElem_cons_succ, List.setIfInBounds_toArray, List.set_cons_zero, List.set_cons_succ]
      refine wpAnyH_take (i := 3) (v := .pointer (some (A.add (i * 67)))) rfl (by kernel_rfl) (by kernel_rfl) (by kernel_rfl) (fun _ _ _ h => h) (Or.inl ⟨by rfl, fun w _ => by go_simp⟩) hS ?_
      try simp only [Act.put, List.getElem_toArray, List.getElem_cons_zero, List.getElem_cons_succ, List.setIfInBounds_toArray, List.set_cons_zero, List.set_cons_succ]
      refine wpAnyH_take (i := 4) (v := .pointer (some ((A.add (i * 67)).add 0))) rfl (by kernel_rfl) (by kernel_rfl) (by kernel_rfl) (fun _ _ _ h => h) (Or.inl ⟨by rfl, fun w _ => by go_simp⟩) hS ?_
      try simp only [Act.put, List.getElem_toArray, List.getElem_cons_zero, List.getElem_cons_succ, List.setIfInBounds_toArray, List.set_cons_zero, List.set_cons_succ]
      refine wpAnyH_take (i := 5) (v := .int .u16 x.pg) rfl (by kernel_rfl) (by kernel_rfl) (by kernel_rfl) (fun _ _ _ h => h) (Or.inl ⟨by rfl, fun w h => by have c := HB0.out w h; go_simp⟩) hS ?_
      try simp only [Act.put, List.getElem_toArray, List.getElem_cons_zero, List.getElem_cons_succ, List.setIfInBounds_toArray, List.set_cons_zero, List.set_cons_succ]
      refine wpAnyH_take (i := 6) (v := .slice (some A) n cap) rfl (by kernel_rfl) (by kernel_rfl) (by kernel_rfl) (fun _ _ _ h => h) (Or.inl ⟨by rfl, fun w _ => by go_simp⟩) hS ?_
      try simp only [Act.put, List.getElem_toArray, List.getElem_cons_zero, List.getElem_cons_succ, List.setIfInBounds_toArray, List.set_cons_zero, List.set_cons_succ]
      refine wpAnyH_take (i := 7) (v := .int .i64 i) rfl (by kernel_rfl) (by kernel_rfl) (by kernel_rfl) (fun _ _ _ h => h) (Or.inl ⟨by rfl, fun w _ => by go_simp⟩) hS ?_
      try simp only [Act.put, List.getElem_toArray, List.getElem_cons_zero, List.getElem_cons_succ, List.setIfInBounds_toArray, List.set_cons_zero, List.set_cons_succ]
      refine wpAnyH_take (i := 8) (v := .pointer (some (A.add (i * 67)))) rfl (by kernel_rfl) (by kernel_rfl) (by kernel_rfl) (fun _ _ _ h => h) (Or.inl ⟨by rfl, fun w _ => by go_simp⟩) hS ?_
      try simp only [Act.put, List.getElem_toArray, List.getElem_cons_zero, List.getElem_cons_succ, List.setIfInBounds_toArray, List.set_cons_zero, List.set_cons_succ]
      refine wpAnyH_take (i := 9) (v := .pointer (some ((A.add (i * 67)).add 1))) rfl (by kernel_rfl) (by kernel_rfl) (by kernel_rfl) (fun _ _ _ h => h) (Or.inl ⟨by rfl, fun w _ => by go_simp⟩) hS ?_
      try simp only [Act.put, List.getElem_toArray, List.getElem_cons_zero, List.getElem_cons_succ, List.setIfInBounds_toArray, List.set_cons_zero, List.set_cons_succ]
      refine wpAnyH_take (i := 10) (v := .agg (bs x.b)) rfl (by kernel_rfl) (by kernel_rfl) (by kernel_rfl) (fun _ _ _ h => h) (yields_any (by rfl) 42 (.tmp 46) rfl ((A.add (i * 67)).add 1) rfl (x.b.map (Value.int .u8)) (fun w h => HB1.out w h) Try.underlying42 rfl (by rw [size42, List.length_map, HOK.out.2.1])) hS ?_
      try simp only [Act.put, List.getElem_toArray, List.getElem_cons_zero, List.getElem_cons_succ, List.setIfInBounds_toArray, List.set_cons_zero, List.set_cons_succ]
      refine wpAnyH_take (i := 11) (v := .slice (some A) n cap) rfl (by kernel_rfl) (by kernel_rfl) (by kernel_rfl) (fun _ _ _ h => h) (Or.inl ⟨by rfl, fun w _ => by go_simp⟩) hS ?_
      try simp only [Act.put, List.getElem_toArray, List.getElem_cons_zero, List.getElem_cons_succ, List.setIfInBounds_toArray, List.set_cons_zero, List.set_cons_succ]
      refine wpAnyH_take (i := 12) (v := .int .i64 i) rfl (by kernel_rfl) (by kernel_rfl) (by kernel_rfl) (fun _ _ _ h => h) (Or.inl ⟨by rfl, fun w _ => by go_simp⟩) hS ?_
      try simp only [Act.put, List.getElem_toArray, List.getElem_cons_zero, List.getElem_cons_succ, List.setIfInBounds_toArray, List.set_cons_zero, List.set_cons_succ]
      refine wpAnyH_take (i := 13) (v := .pointer (some (A.add (i * 67)))) rfl (by kernel_rfl) (by kernel_rfl) (by kernel_rfl) (fun _ _ _ h => h) (Or.inl ⟨by rfl, fun w _ => by go_simp⟩) hS ?_
      try simp only [Act.put, List.getElem_toArray, List.getElem_cons_zero, List.getElem_cons_succ, List.setIfInBounds_toArray, List.set_cons_zero, List.set_cons_succ]
      refine wpAnyH_take (i := 14) (v := .pointer (some ((A.add (i * 67)).add 65))) rfl (by kernel_rfl) (by kernel_rfl) (by kernel_rfl) (fun _ _ _ h => h) (Or.inl ⟨by rfl, fun w _ => by go_simp⟩) hS ?_
      try simp only [Act.put, List.getElem_toArray, List.getElem_cons_zero, List.getElem_cons_succ, List.setIfInBounds_toArray, List.set_cons_zero, List.set_cons_succ]
      refine wpAnyH_take (i := 15) (v := .int .i64 x.off) rfl (by kernel_rfl) (by kernel_rfl) (by kernel_rfl) (fun _ _ _ h => h) (Or.inl ⟨by rfl, fun w h => by have c := HB65.out w h; rw [add_sp _ _ (by decide)] at c; go_simp⟩) hS ?_
      try simp only [Act.put, List.getElem_toArray, List.getElem_cons_zero, List.getElem_cons_succ, List.setIfInBounds_toArray, List.set_cons_zero, List.set_cons_succ]
      refine wpAnyH_take (i := 16) (v := .slice (some A) n cap) rfl (by kernel_rfl) (by kernel_rfl) (by kernel_rfl) (fun _ _ _ h => h) (Or.inl ⟨by rfl, fun w _ => by go_simp⟩) hS ?_
      try simp only [Act.put, List.getElem_toArray, List.getElem_cons_zero, List.getElem_cons_succ, List.setIfInBounds_toArray, List.set_cons_zero, List.set_cons_succ]
      refine wpAnyH_take (i := 17) (v := .int .i64 i) rfl (by kernel_rfl) (by kernel_rfl) (by kernel_rfl) (fun _ _ _ h => h) (Or.inl ⟨by rfl, fun w _ => by go_simp⟩) hS ?_
      try simp only [Act.put, List.getElem_toArray, List.getElem_cons_zero, List.getElem_cons_succ, List.setIfInBounds_toArray, List.set_cons_zero, List.set_cons_succ]
      refine wpAnyH_take (i := 18) (v := .pointer (some (A.add (i * 67)))) rfl (by kernel_rfl) (by kernel_rfl) (by kernel_rfl) (fun _ _ _ h => h) (Or.inl ⟨by rfl, fun w _ => by go_simp⟩) hS ?_
      try simp only [Act.put, List.getElem_toArray, List.getElem_cons_zero, List.getElem_cons_succ, List.setIfInBounds_toArray, List.set_cons_zero, List.set_cons_succ]
      refine wpAnyH_take (i := 19) (v := .pointer (some ((A.add (i * 67)).add 66))) rfl (by kernel_rfl) (by kernel_rfl) (by kernel_rfl) (fun _ _ _ h => h) (Or.inl ⟨by rfl, fun w _ => by go_simp⟩) hS ?_
      try simp only [Act.put, List.getElem_toArray, List.getElem_cons_zero, List.getElem_cons_succ, List.setIfInBounds_toArray, List.set_cons_zero, List.set_cons_succ]
      refine wpAnyH_take (i := 20) (v := .string x.t) rfl (by kernel_rfl) (by kernel_rfl) (by kernel_rfl) (fun _ _ _ h => h) (Or.inl ⟨by rfl, fun w h => by have c := HB66.out w h; rw [add_sp _ _ (by decide)] at c; go_simp⟩) hS ?_
      try simp only [Act.put, List.getElem_toArray, List.getElem_cons_zero, List.getElem_cons_succ, List.setIfInBounds_toArray, List.set_cons_zero, List.set_cons_succ]
      refine wpAnyH_ready (rs := [21]) (by kernel_rfl) (by simp) ?_
      refine AllReadyH.cons rfl (fun K hK => ?_) AllReadyH.nil
      go_simp
      go_at_call 16
      refine hwr.mono ?_
      rintro e wc ⟨rfl, c2, o2⟩
      have hgw : Hid (w.heap.size ≤ w.heap.size) := Nat.le_refl _
      have b3 : Below w.heap.size w wc := b1.drew.trans (o2.below b1.drew.size (by rintro q (rfl | rfl) <;> have := HSM.out <;> have := hgw.out <;> omega))
      have r3 : Row wc w.heap.size OA 44 := Row.off (w := wr.drew) r1 o2 (by rintro (q | q) <;> have := HSM.out <;> omega)
      refine hK.out _ _ b3 fun hS => ?_
      try simp only [Act.put, List.getElem_toArray, List.getElem_cons_zero, List.getElem_cons_succ, List.setIfInBounds_toArray, List.set_cons_zero, List.set_cons_succ]
      refine wpAnyH_done (by kernel_rfl) ?_ _
      clear hwr HB0 HB1 HB65 HB66
      go_wp2
      go_roundw
      case rel => exact ⟨i + 1, _, by go_num, by omega, by omega, c2, b3, r3⟩
      case measure => simp [intOf]; omega
    · have hst : (i : Int) < (n : Int) → ¬ (i : Int) < 30 := fun q q' => hgo ⟨by omega, by omega⟩
      have hst2 : (¬ (i : Int) < (n : Int)) ∨ ((i : Int) < (n : Int) ∧ ¬ (i : Int) < 30) := by
        by_cases q : (i : Int) < (n : Int)
        · exact Or.inr ⟨q, hst q⟩
        · exact Or.inl q
      clear hst hgo
      have hpg := pages_any c1
      have HRI : Hid (L.Pairwise fun p q => p.1 < q.1) := c1.rising
      have hK4 := c1.small
      have HKW : Hid (∀ p ∈ L, Wr p.2 ∧ 0 ≤ p.1 ∧ p.1 ≤ 65535) := c1.wr
      have hz42 := zero42
      rcases hst2 with g1' | ⟨g1', g2'⟩
      all_goals (
      (go_wp2_with (go_at_call 22; refine hpg.mono ?_; clear hpg; rintro e W2 ⟨ga, cap2, cur, rfl, u2, hb2, hga⟩)
       obtain ⟨K, HK⟩ : ∃ K, Hid (L.length = K) := ⟨_, rfl⟩
       obtain ⟨PL, HPL⟩ : ∃ PL, Hid (L.map Prod.fst = PL) := ⟨_, rfl⟩
       have HPK : Hid (PL.length = K) := by show _ = _; rw [← HPL.out, List.length_map, HK.out]
       rw [HK.out] at hK4 ⊢
       rw [HPL.out] at u2
       have c2 := c1.below hb2
       have b2 := b1.trans (hb2.mono b1.size)
       have r2 := r1.below hb2 r1.lt
       have HLT : Hid (s < W2.heap.size ∧ m < W2.heap.size ∧ w.heap.size < W2.heap.size ∧ ga < W2.heap.size) := ⟨c2.row.lt, c2.own.lt, r2.lt, u2.row.lt⟩
       have HPW : Hid (∀ p ∈ PL, (Lit.int .u16 p).wf = true ∧ hasP L p = true) := fun p hp => by
         rw [← HPL.out] at hp
         have h1 := (hasP_mem L p).2 hp
         obtain ⟨q, hq, rfl⟩ := List.mem_map.1 hp
         exact ⟨WalkArith.wf_u16 (HKW.out q hq).2, h1⟩
       clear hb2 c1 b1 r1 hga
       go_loopw [8, 63] (fun vb d wr => ∃ k : Nat, d = .int .i64 k ∧ k ≤ K ∧ OwnB wr W2.heap.size vb ((PL.take k).map fun p => nowP (atP L p)) ∧ Below W2.heap.size W2 wr) (fun _ d _ => K - (intOf d).toNat)
       case atStart => exact ⟨0, rfl, by omega, OwnB.empty _ _, Below.refl _ _⟩
       case round =>
         obtain ⟨k, rfl, hk, ow, hb⟩ := hrel
         by_cases hkK : k < K
         · have hkK' : (k : Int) < (K : Int) := by omega
           obtain ⟨p, hp⟩ : ∃ p, PL[k]? = some p := ⟨_, List.getElem?_eq_getElem (by rw [HPK.out]; exact hkK)⟩
           have hu := (UAtb u2 hb HLT.out.2.2.2).cell k p hp
           have hrd := read_any (c2.below hb) p (HPW.out p (List.mem_of_getElem? hp)).1
           have hY : (nowP (atP L p)).length = 64 := nowP_len (c2.at_wr p)
           have HNX : Hid ((PL.take (k + 1)).map (fun p => nowP (atP L p)) = (PL.take k).map (fun p => nowP (atP L p)) ++ [nowP (atP L p)]) := by show _ = _; rw [List.take_add_one, hp]; simp
           obtain ⟨Y, HY⟩ : ∃ Y, Hid (nowP (atP L p) = Y) := ⟨_, rfl⟩
           rw [HY.out] at hrd hY HNX
           have HYL : Hid (Y.length = 64) := hY
           clear hY
           have hkl : Hid (((PL.take k).map fun p => nowP (atP L p)).length ≤ 4) := by show _ ≤ _; rw [List.length_map, List.length_take]; omega
           generalize (PL.take k).map (fun p => nowP (atP L p)) = bl at ow HNX hkl
           have ts : Hid (1 = 1) := rfl
           go_upto_region 14 with (first
             | (go_at_call 18; refine hrd.mono ?_; clear hrd; rintro e w5 ⟨rfl, hb5⟩; have z0 : Row (w5.alloc (.cells (bs (zs 64)) 42)) w5.heap.size (bs (zs 64)) 42 := Row.new _ _ _)
             | (have hh := ts; clear hh ts; refine store_cells rfl 42 (.tmp 11) (.tmp 71) rfl w5.heap.size (bs Y) rfl rfl 42 _ z0 64 size42 (by rw [bs_size, zs_length]) (by rw [bs_size]; exact HYL.out) (bs_one Y) ?_))
           have hb6 : Below wr.heap.size wr ((w5.alloc (.cells (bs (zs 64)) 42)).setRow w5.heap.size (bs Y)) := hb5.trans ((below_setRow ((Below.refl _ _).alloc (Nat.le_refl _) _) (Nat.le_refl _) _ : Below w5.heap.size w5 _).mono hb5.size)
           have z1 := z0.set (bs Y)
           have ow6 := ow.keep hb6
           have hb7 := hb.trans (hb6.mono hb.size)
           clear hb5 hb6 z0 ow hb hu
           generalize (w5.alloc (.cells (bs (zs 64)) 42)).setRow w5.heap.size (bs Y) = w6 at z1 ow6 hb7 ⊢
           generalize w5.heap.size = X at z1 ⊢
           have HR : Hid (∀ ty, ∃ v' w', (Builtin.append_ #[59, 59] ty #[u8, .slice (some ⟨w6.heap.size, 0, none⟩) 1 1]).run Try.prog (w6.alloc (.cells (bs Y) 42)) = .ok v' w' ∧ (OwnB w' W2.heap.size v' (bl ++ [Y]) ∧ Below W2.heap.size W2 w')) := fun ty => by
             have own3 := ow6.keep ((Below.refl _ _).alloc (Nat.le_refl _) (.cells (bs Y) 42))
             have b4 : Below W2.heap.size W2 (w6.alloc (.cells (bs Y) 42)) := hb7.alloc hb7.size _
             obtain ⟨v', w', h1, h2, h3⟩ := own3.snoc ty w6.heap.size Y HYL.out (Row.new _ _ _) b4.size (by have := hkl.out; omega)
             exact ⟨v', w', h1, h2, b4.grown h3 b4.size (fun k hk => own3.lt k hk)⟩
           have tm : Hid (1 = 1) := rfl
           have tn : Hid (1 = 1) := rfl
           clear ow6
           go_wp2_with (first
             | (have hh := tm; clear hh tm; refine load_row rfl 42 (.tmp 11) rfl X rfl 42 _ z1 64 5 Try.underlying42 size42 (by rw [bs_size]; exact HYL.out) ?_)
             | (have hh := tn; clear hh tn; refine wpList_body_one rfl (.tmp 74) rfl Y HYL.out rfl ?_)
             | (at_builtin; refine wpList_copy' rfl (.tmp 73) (.tmp 75) 59 rfl _ _ rfl rfl (fun ty => HR.out ty) ?_; clear HR; rintro v4 w4 ⟨own4, rb4⟩))
           go_roundw
           case rel => exact ⟨k + 1, by go_num, by omega, by rw [HNX.out]; exact own4, rb4⟩
           case measure => simp [intOf]; omega
         · have hkK' : ¬ (k : Int) < (K : Int) := by omega
           have eK : K = k := by omega
           subst eK
           have ht : PL.take K = PL := by rw [← HPK.out, List.take_length]
           rw [ht] at ow
           clear ht hkK' hk hkK
           have c3 := c2.below hb
           have b3 := b2.trans (hb.mono b2.size)
           have r3 := r2.below hb HLT.out.2.2.1
           have u3 := UAtb u2 hb HLT.out.2.2.2
           have HWR : Hid (W2.heap.size ≤ wr.heap.size) := hb.size
           clear hb c2 b2 r2 u2
           have hrd := read_any c3 o.pg HO.out.1
           obtain ⟨d0, _⟩ := op_at r3 HOA.out HO.out.2.1
           have hMI := nowP_len (c3.at_wr o.pg)
           obtain ⟨MI, HMI⟩ : ∃ MI, Hid (nowP (atP L o.pg) = MI) := ⟨_, rfl⟩
           obtain ⟨HD, HHD⟩ : ∃ HD, Hid (hasP L o.pg = HD) := ⟨_, rfl⟩
           rw [HMI.out] at hrd hMI
           rw [HHD.out] at hrd
           have HML : Hid (MI.length = 64) := hMI
           clear hMI
           have ts : Hid (1 = 1) := rfl
           go_upto_region 17 with (first
             | (go_at_call 18; refine hrd.mono ?_; clear hrd; rintro e w5 ⟨rfl, hb5⟩; have z0 : Row (w5.alloc (.cells (bs (zs 64)) 42)) w5.heap.size (bs (zs 64)) 42 := Row.new _ _ _)
             | (have hh := ts; clear hh ts; refine store_cells rfl 42 (.tmp 13) (.tmp 83) rfl w5.heap.size (bs MI) rfl rfl 42 _ z0 64 size42 (by rw [bs_size, zs_length]) (by rw [bs_size]; exact HML.out) (bs_one MI) ?_))
           have hb6 : Below wr.heap.size wr ((w5.alloc (.cells (bs (zs 64)) 42)).setRow w5.heap.size (bs MI)) := hb5.trans ((below_setRow ((Below.refl _ _).alloc (Nat.le_refl _) _) (Nat.le_refl _) _ : Below w5.heap.size w5 _).mono hb5.size)
           have z1 := z0.set (bs MI)
           have HX3 : Hid (W2.heap.size ≤ w5.heap.size) := Nat.le_trans HWR.out hb5.size
           have ow6 := ow.keep hb6
           have c6 := c3.below hb6
           have b6 := b3.trans (hb6.mono b3.size)
           have r6 := r3.below hb6 r3.lt
           have u6 := UAtb u3 hb6 u3.row.lt
           clear hb5 hb6 z0 ow c3 b3 r3 u3 d0
           generalize (w5.alloc (.cells (bs (zs 64)) 42)).setRow w5.heap.size (bs MI) = w6 at z1 ow6 c6 b6 r6 u6 ⊢
           generalize w5.heap.size = X3 at z1 HX3 ⊢
           obtain ⟨d0, d1, d65, d66⟩ := op_at r6 HOA.out HO.out.2.1
           have hwr := write_any c6 o HO.out
           have tl : Hid (1 = 1) := rfl
           go_upto_region 18 with (first
             | (have hh := tl; clear hh tl; refine wpList_load_any rfl 42 (.tmp 88) rfl ⟨w.heap.size, 1, none⟩ rfl (o.b.map (Value.int .u8)) _ d1 Try.underlying42 rfl (by rw [size42, List.length_map, HO.out.2.1]) ?_)
             | (go_at_call 16; refine hwr.mono ?_; clear hwr; rintro e W3 ⟨rfl, c7, o7⟩))
           have HGW : Hid (w.heap.size ≤ w.heap.size) := Nat.le_refl _
           have b7 : Below w.heap.size w W3 := b6.trans (o7.below b6.size (by rintro q (rfl | rfl) <;> have := HSM.out <;> have := HGW.out <;> omega))
           have z7 := z1.off o7 (by rintro (q | q) <;> have := HX3.out <;> have := HLT.out <;> omega)
           have r7 := r6.off o7 (by rintro (q | q) <;> have := HSM.out <;> omega)
           have u7 : S2.UAt W3 ga cur PL := u6.off o7 (by rintro (q | q) <;> subst q; exact (Row.ne' u6.row c6.row (by decide)); exact row_map u6.row c6.own)
           have ow7 := ow6.off o7 (fun g cs hg => by rintro (q | q) <;> subst q; exact (Row.ne' hg c6.row (by decide)); exact row_map hg c6.own)
           clear z1 r6 u6 ow6 o7 d0 d1 d65 d66 b6
           have HF1 : Hid (∀ p ∈ PL, hasP (wrL L o) p = true ∧ (p ≠ o.pg → nowP (atP (wrL L o) p) = nowP (atP L p))) := fun p hp => by
             have := wrL_has HRI.out o p (HPW.out p hp).2
             exact ⟨this.1, fun q => by rw [this.2 q]⟩
           have HF2 : Hid (wrE L o ≠ 0 → wrL L o = L) := fun q => by unfold wrL; rw [if_neg q]
           have HF3 : Hid (wrE L o = 0 → hasP (wrL L o) o.pg = true ∧ okW o.off o.t ∧ ∀ i, i < 64 → (nowP (atP (wrL L o) o.pg)).getD i 0 = if o.off ≤ i ∧ (i : Int) - o.off < o.t.size then (nums o.t).getD ((i : Int) - o.off).toNat 0 else if HD = true then MI.getD i 0 else o.b.getD i 0) := fun q => by
             have hk := wrE_ok q
             have e1 : wrL L o = putP L o.pg (wroteP L o.pg o.b o.off o.t) := by unfold wrL; rw [if_pos q]
             have e2 := put_same HRI.out o.pg (wroteP L o.pg o.b o.off o.t)
             refine ⟨by rw [e1]; exact e2.2, hk, fun i hi => ?_⟩
             rw [e1, e2.1, wrote_getD HO.out hk (c6.at_wr o.pg) i hi, HHD.out, HMI.out]
           clear c6
           have HWF : Hid ((Lit.int .u16 o.pg).wf = true) := HO.out.1
           obtain ⟨L', HL'⟩ : ∃ L', Hid (wrL L o = L') := ⟨_, rfl⟩
           obtain ⟨EE, HEE⟩ : ∃ EE, Hid (wrE L o = EE) := ⟨_, rfl⟩
           rw [HL'.out] at c7 HF1 HF2 HF3
           rw [HEE.out] at HF2 HF3 ⊢
           obtain ⟨oaB, capB, hvB, hBc⟩ := ow7.form
           rw [List.length_map, HPK.out] at hvB
           subst hvB
           have HBC : Hid _ := hBc
           clear hBc ow7
           go_wp2
           go_loopw [97] (fun d wr => ∃ k : Nat, d = .int .i64 k ∧ k ≤ K ∧ Below W3.heap.size W3 wr) (fun d _ => K - (intOf d).toNat)
           case atStart => exact ⟨0, rfl, by omega, Below.refl _ _⟩
           case round =>
             obtain ⟨k, rfl, hk, hb⟩ := hrel
             by_cases hkK : k < K
             · have hkK' : (k : Int) < (K : Int) := by omega
               obtain ⟨p, hp⟩ : ∃ p, PL[k]? = some p := ⟨_, List.getElem?_eq_getElem (by rw [HPK.out]; exact hkK)⟩
               have hmp := List.mem_of_getElem? hp
               have hu := (UAtb u7 hb u7.row.lt).cell k p hp
               have hrd := read_any (c7.below hb) p (HPW.out p hmp).1
               have hY := nowP_len (c7.at_wr p)
               have hf1 := HF1.out p hmp
               rw [hf1.1] at hrd
               obtain ⟨gB, hgB, hBk⟩ := HBC.out k (nowP (atP L p)) (by rw [List.getElem?_map, hp]; rfl)
               subst hgB
               have HSE : Hid (p ≠ o.pg → nowP (atP L' p) = nowP (atP L p)) := hf1.2
               obtain ⟨Y, HY⟩ : ∃ Y, Hid (nowP (atP L' p) = Y) := ⟨_, rfl⟩
               rw [HY.out] at hrd hY HSE
               have HYL : Hid (Y.length = 64) := hY
               clear hY hf1 hmp
               have ts : Hid (1 = 1) := rfl
               go_upto_region 22 with (first
                 | (go_at_call 18; refine hrd.mono ?_; clear hrd; rintro e w5 ⟨rfl, hb5⟩; have z0 : Row (w5.alloc (.cells (bs (zs 64)) 42)) w5.heap.size (bs (zs 64)) 42 := Row.new _ _ _)
                 | (have hh := ts; clear hh ts; refine store_cells rfl 42 (.tmp 18) (.tmp 106) rfl w5.heap.size (bs Y) rfl rfl 42 _ z0 64 size42 (by rw [bs_size, zs_length]) (by rw [bs_size]; exact HYL.out) (bs_one Y) ?_))
               have hb6 : Below wr.heap.size wr ((w5.alloc (.cells (bs (zs 64)) 42)).setRow w5.heap.size (bs Y)) := hb5.trans ((below_setRow ((Below.refl _ _).alloc (Nat.le_refl _) _) (Nat.le_refl _) _ : Below w5.heap.size w5 _).mono hb5.size)
               have z1 := z0.set (bs Y)
               have hb7 := hb.trans (hb6.mono hb.size)
               have r8 := r7.below hb7 r7.lt
               clear hb5 hb6 z0 hb hu
               generalize (w5.alloc (.cells (bs (zs 64)) 42)).setRow w5.heap.size (bs Y) = w6 at z1 hb7 r8 ⊢
               generalize w5.heap.size = X8 at z1 ⊢
               by_cases hpe : p = o.pg
               · subst hpe
                 have d0 := (op_at r8 HOA.out HO.out.2.1).1
                 clear hBk
                 go_quiet (fail)
                 go_wp2
                 go_roundw
                 case rel => exact ⟨k + 1, by go_num, by omega, below_drewN0 hb7 _⟩
                 case measure => simp [intOf]; omega
               · have hBY : ∀ j u, (Y.map (Value.int .u8))[j]? = some u → W3.cell? ((⟨gB, k * 64, none⟩ : Addr).add j) = some u := by rw [HSE.out hpe]; exact hBk
                 have HBY : Hid _ := hBY
                 clear hBk hBY
                 refine wp_region_held_drew (S := fun w' => Row w' X8 (bs Y) 42 ∧ Row w' w.heap.size OA 44 ∧ ∀ j u, (Y.map (Value.int .u8))[j]? = some u → w'.cell? ((⟨gB, k * 64, none⟩ : Addr).add j) = some u) (by kernel_rfl) ⟨z1, r8, fun j u hj => cell_keep (HBY.out j u hj) hb7.drew⟩ fun hS => ?_
                 refine wpAnyH_take (i := 0) (v := .bool true) rfl (by kernel_rfl) (by kernel_rfl) (by kernel_rfl) (fun _ _ _ h => h) (Or.inl ⟨by rfl, fun w _ => by go_simp⟩) hS ?_
                 try simp only [Act.put, List.getElem_toArray, List.getElem_cons_zero, List.getElem_cons_succ, List.setIfInBounds_toArray, List.set_cons_zero, List.set_cons_succ]
                 refine wpAnyH_take (i := 1) (v := .bool false) rfl (by kernel_rfl) (by kernel_rfl) (by kernel_rfl) (fun _ _ _ h => h) (Or.inl ⟨by rfl, fun w _ => by go_simp⟩) hS ?_
                 try simp only [Act.put, List.getElem_toArray, List.getElem_cons_zero, List.getElem_cons_succ, List.setIfInBounds_toArray, List.set_cons_zero, List.set_cons_succ]
                 refine wpAnyH_take (i := 2) (v := .bool false) rfl (by kernel_rfl) (by kernel_rfl) (by kernel_rfl) (fun _ _ _ h => h) (Or.inl ⟨by rfl, fun w _ => by go_simp⟩) hS ?_
                 try simp only [Act.put, List.getElem_toArray, List.getElem_cons_zero, List.getElem_cons_succ, List.setIfInBounds_toArray, List.set_cons_zero, List.set_cons_succ]
                 refine wpAnyH_take (i := 3) (v := .int .u16 p) rfl (by kernel_rfl) (by kernel_rfl) (by kernel_rfl) (fun _ _ _ h => h) (Or.inl ⟨by rfl, fun w _ => by go_simp⟩) hS ?_
                 try simp only [Act.put, List.getElem_toArray, List.getElem_cons_zero, List.getElem_cons_succ, List.setIfInBounds_toArray, List.set_cons_zero, List.set_cons_succ]
                 refine wpAnyH_take (i := 4) (v := .pointer (some ⟨w.heap.size, 0, none⟩)) rfl (by kernel_rfl) (by kernel_rfl) (by kernel_rfl) (fun _ _ _ h => h) (Or.inl ⟨by rfl, fun w _ => by go_simp⟩) hS ?_
                 try simp only [Act.put, List.getElem_toArray, List.getElem_cons_zero, List.getElem_cons_succ, List.setIfInBounds_toArray, List.set_cons_zero, List.set_cons_succ]
                 refine wpAnyH_take (i := 5) (v := .int .u16 o.pg) rfl (by kernel_rfl) (by kernel_rfl) (by kernel_rfl) (fun _ _ _ h => h) (Or.inl ⟨by rfl, fun w h => by have c := (op_at h.2.1 HOA.out HO.out.2.1).1; go_simp⟩) hS ?_
                 try simp only [Act.put, List.getElem_toArray, List.getElem_cons_zero, List.getElem_cons_succ, List.setIfInBounds_toArray, List.set_cons_zero, List.set_cons_succ]
                 refine wpAnyH_take (i := 6) (v := .bool true) rfl (by kernel_rfl) (by kernel_rfl) (by kernel_rfl) (fun _ _ _ h => h) (Or.inl ⟨by rfl, fun w _ => by go_simp⟩) hS ?_
                 try simp only [Act.put, List.getElem_toArray, List.getElem_cons_zero, List.getElem_cons_succ, List.setIfInBounds_toArray, List.set_cons_zero, List.set_cons_succ]
                 refine wpAnyH_take (i := 7) (v := .bool true) rfl (by kernel_rfl) (by kernel_rfl) (by kernel_rfl) (fun _ _ _ h => h) (Or.inl ⟨by rfl, fun w _ => by go_simp⟩) hS ?_
                 try simp only [Act.put, List.getElem_toArray, List.getElem_cons_zero, List.getElem_cons_succ, List.setIfInBounds_toArray, List.set_cons_zero, List.set_cons_succ]
                 refine wpAnyH_take (i := 8) (v := .agg (bs Y)) rfl (by kernel_rfl) (by kernel_rfl) (by kernel_rfl) (fun _ _ _ h => h) (yields_row (by rfl) 42 (.tmp 18) rfl X8 rfl 42 (bs Y) (fun w h => h.1) 64 5 Try.underlying42 size42 (by rw [bs_size]; exact HYL.out)) hS ?_
                 try simp only [Act.put, List.getElem_toArray, List.getElem_cons_zero, List.getElem_cons_succ, List.setIfInBounds_toArray, List.set_cons_zero, List.set_cons_succ]
                 refine wpAnyH_take (i := 9) (v := .slice (some ⟨gB, 0, none⟩) K capB) rfl (by kernel_rfl) (by kernel_rfl) (by kernel_rfl) (fun _ _ _ h => h) (Or.inl ⟨by rfl, fun w _ => by go_simp⟩) hS ?_
                 try simp only [Act.put, List.getElem_toArray, List.getElem_cons_zero, List.getElem_cons_succ, List.setIfInBounds_toArray, List.set_cons_zero, List.set_cons_succ]
                 refine wpAnyH_take (i := 10) (v := .int .i64 k) rfl (by kernel_rfl) (by kernel_rfl) (by kernel_rfl) (fun _ _ _ h => h) (Or.inl ⟨by rfl, fun w _ => by go_simp⟩) hS ?_
                 try simp only [Act.put, List.getElem_toArray, List.getElem_cons_zero, List.getElem_cons_succ, List.setIfInBounds_toArray, List.set_cons_zero, List.set_cons_succ]
                 refine wpAnyH_take (i := 11) (v := .pointer (some ⟨gB, k * 64, none⟩)) rfl (by kernel_rfl) (by kernel_rfl) (by kernel_rfl) (fun _ _ _ h => h) (Or.inl ⟨by rfl, fun w _ => by go_simp⟩) hS ?_
                 try simp only [Act.put, List.getElem_toArray, List.getElem_cons_zero, List.getElem_cons_succ, List.setIfInBounds_toArray, List.set_cons_zero, List.set_cons_succ]
                 refine wpAnyH_take (i := 12) (v := .agg (bs Y)) rfl (by kernel_rfl) (by kernel_rfl) (by kernel_rfl) (fun _ _ _ h => h) (yields_any (by rfl) 42 (.tmp 119) rfl ⟨gB, k * 64, none⟩ rfl (Y.map (Value.int .u8)) (fun w h => h.2.2) Try.underlying42 rfl (by rw [size42, List.length_map, HYL.out])) hS ?_
                 try simp only [Act.put, List.getElem_toArray, List.getElem_cons_zero, List.getElem_cons_succ, List.setIfInBounds_toArray, List.set_cons_zero, List.set_cons_succ]
                 refine wpAnyH_take (i := 13) (v := .bool false) rfl (by kernel_rfl) (by kernel_rfl) (by kernel_rfl) (fun _ _ _ h => h) (yields_neq (by rfl) 42 42 (.tmp 116) (.tmp 120) rfl (bs Y) (bs Y) rfl rfl eqg42 true (fun w => by rw [equal_bytes 42 5 64 Try.underlying42 Try.underlying5 size5 cells5' Y Y HYL.out HYL.out w]; simp)) hS ?_
                 try simp only [Act.put, List.getElem_toArray, List.getElem_cons_zero, List.getElem_cons_succ, List.setIfInBounds_toArray, List.set_cons_zero, List.set_cons_succ]
                 refine wpAnyH_take (i := 14) (v := .bool false) rfl (by kernel_rfl) (by kernel_rfl) (by kernel_rfl) (fun _ _ _ h => h) (Or.inl ⟨by rfl, fun w _ => by go_simp⟩) hS ?_
                 try simp only [Act.put, List.getElem_toArray, List.getElem_cons_zero, List.getElem_cons_succ, List.setIfInBounds_toArray, List.set_cons_zero, List.set_cons_succ]
                 refine wpAnyH_take (i := 15) (v := .bool false) rfl (by kernel_rfl) (by kernel_rfl) (by kernel_rfl) (fun _ _ _ h => h) (Or.inl ⟨by rfl, fun w _ => by go_simp⟩) hS ?_
                 try simp only [Act.put, List.getElem_toArray, List.getElem_cons_zero, List.getElem_cons_succ, List.setIfInBounds_toArray, List.set_cons_zero, List.set_cons_succ]
                 refine wpAnyH_done (by kernel_rfl) ?_ _
                 go_wp2
                 go_roundw
                 case rel => exact ⟨k + 1, by go_num, by omega, hb7.drew⟩
                 case measure => simp [intOf]; omega
             · have hkK' : ¬ (k : Int) < (K : Int) := by omega
               have eK : K = k := by omega
               subst eK
               have c8 := c7.below hb
               have b8 := b7.trans (hb.mono b7.size)
               have r8 := r7.below hb r7.lt
               have z8 := z7.below hb z7.lt
               clear hb c7 b7 r7 z7 u7 hkK' hk hkK HBC HF1
               have hrd := read_any c8 o.pg HWF.out
               have d0 := (op_at r8 HOA.out HO.out.2.1).1
               have hNW := nowP_len (c8.at_wr o.pg)
               obtain ⟨NW, HNW⟩ : ∃ NW, Hid (nowP (atP L' o.pg) = NW) := ⟨_, rfl⟩
               obtain ⟨HS, HHS⟩ : ∃ HS, Hid (hasP L' o.pg = HS) := ⟨_, rfl⟩
               rw [HNW.out] at hrd hNW HF3
               rw [HHS.out] at hrd HF3
               have HNL : Hid (NW.length = 64) := hNW
               clear hNW
               have ts : Hid (1 = 1) := rfl
               go_upto_region 26 with (first
                 | (go_at_call 18; refine hrd.mono ?_; clear hrd; rintro e w5 ⟨rfl, hb5⟩; have z0 : Row (w5.alloc (.cells (bs (zs 64)) 42)) w5.heap.size (bs (zs 64)) 42 := Row.new _ _ _)
                 | (have hh := ts; clear hh ts; refine store_cells rfl 42 (.tmp 20) (.tmp 130) rfl w5.heap.size (bs NW) rfl rfl 42 _ z0 64 size42 (by rw [bs_size, zs_length]) (by rw [bs_size]; exact HNL.out) (bs_one NW) ?_))
               have hb6 : Below wr.heap.size wr ((w5.alloc (.cells (bs (zs 64)) 42)).setRow w5.heap.size (bs NW)) := hb5.trans ((below_setRow ((Below.refl _ _).alloc (Nat.le_refl _) _) (Nat.le_refl _) _ : Below w5.heap.size w5 _).mono hb5.size)
               have z1 := z0.set (bs NW)
               have c9 := c8.below hb6
               have b9 := b8.trans (hb6.mono b8.size)
               have r9 := r8.below hb6 r8.lt
               have z9 := z8.below hb6 z8.lt
               clear hb5 hb6 z0 c8 b8 r8 z8 d0
               generalize (w5.alloc (.cells (bs (zs 64)) 42)).setRow w5.heap.size (bs NW) = w6 at z1 c9 b9 r9 z9 ⊢
               generalize w5.heap.size = X9 at z1 ⊢
               have HA : Hid (∀ w, Calls Try.prog 24 #[] w fun e w' => e = .returned (.bool true) ∧ Below w.heap.size w w') := awake_any
               by_cases hE : EE = 0
               · subst hE
                 obtain ⟨hs1, hok, hget⟩ := HF3.out rfl
                 subst hs1
                 obtain ⟨of, hof⟩ : ∃ of : Nat, o.off = of := ⟨o.off.toNat, by have := hok.1; omega⟩
                 have hof64 : of ≤ 64 := by have := hok.2.1; omega
                 have HGET : Hid _ := hget
                 clear HF2 HF3 hok hget
                 go_wp2
                 go_loopw [22] (fun d wr => ∃ i : Nat, d = .int .i64 i ∧ i ≤ 64 ∧ Below w6.heap.size w6 wr) (fun d _ => 64 - (intOf d).toNat)
                 case atStart => exact ⟨0, rfl, by omega, Below.refl _ _⟩
                 case round =>
                   obtain ⟨i, rfl, hi, hb⟩ := hrel
                   by_cases hi64 : i < 64
                   · have hi64' : (i : Int) < 64 := by omega
                     have hg := HGET.out i hi64
                     rw [hof] at hg
                     obtain ⟨_, hcb, d65, d66⟩ := op_at (r9.below hb r9.lt) HOA.out HO.out.2.1
                     rw [hof] at d65
                     have c20 := row_cell (z1.below hb z1.lt) i (by rw [HNL.out]; exact hi64)
                     have c13 := row_cell (z9.below hb z9.lt) i (by rw [HML.out]; exact hi64)
                     have cb := hcb i (.int .u8 (o.b.getD i 0)) (by rw [List.getElem?_map, List.getElem?_eq_getElem (by rw [HO.out.2.1]; exact hi64)]; simp [List.getD, HO.out.2.1, hi64])
                     rw [Addr.add_mid] at cb
                     rw [hg] at c20
                     clear hcb hg
                     by_cases hin1 : of ≤ i
                     · have x1 : (i : Int) ≥ (of : Int) := by omega
                       have x1' : (of : Int) ≤ (i : Int) := by omega
                       have x2 : IntKind.i64.wrap ((i : Int) - (of : Int)) = ((i - of : Nat) : Int) := by rw [IntKind.wrap_i64]; omega
                       obtain ⟨j, HJ⟩ : ∃ j, Hid (i - of = j) := ⟨_, rfl⟩
                       rw [HJ.out] at x2
                       have x3 : (i : Int) - (of : Int) = j := by rw [← HJ.out]; omega
                       by_cases hin2 : j < o.t.size
                       · have x4 : (j : Int) < (o.t.size : Int) := by omega
                         rw [if_pos ⟨x1', by rw [x3]; exact x4⟩, x3, Int.toNat_natCast] at c20
                         have hby : o.t[j]? = some o.t[j] := getElem?_pos o.t j hin2
                         have hnum : (nums o.t).getD j 0 = (o.t[j].toNat : Int) := nums_getD o.t j hin2
                         rw [hnum] at c20
                         clear hnum
                         go_upto_region 32 with fail
                         go_quiet (fail)
                         go_wp2
                         go_roundw
                         case rel => exact ⟨i + 1, by go_num, by omega, below_drewN0 hb _⟩
                         case measure => simp [intOf]; omega
                       · have x4 : ¬ (j : Int) < (o.t.size : Int) := by omega
                         rw [if_neg (by rw [x3]; exact fun q => x4 q.2)] at c20
                         cases HD
                         · rw [if_neg (by decide)] at c20
                           go_upto_region 32 with fail
                           go_quiet (fail)
                           go_wp2
                           go_roundw
                           case rel => exact ⟨i + 1, by go_num, by omega, below_drewN0 hb _⟩
                           case measure => simp [intOf]; omega
                         · rw [if_pos rfl] at c20
                           go_upto_region 32 with fail
                           go_quiet (fail)
                           go_wp2
                           go_roundw
                           case rel => exact ⟨i + 1, by go_num, by omega, below_drewN0 hb _⟩
                           case measure => simp [intOf]; omega
                     · have x1 : ¬ (i : Int) ≥ (of : Int) := by omega
                       rw [if_neg (by omega)] at c20
                       cases HD
                       · rw [if_neg (by decide)] at c20
                         go_upto_region 32 with fail
                         go_quiet (fail)
                         go_wp2
                         go_roundw
                         case rel => exact ⟨i + 1, by go_num, by omega, below_drewN0 hb _⟩
                         case measure => simp [intOf]; omega
                       · rw [if_pos rfl] at c20
                         go_upto_region 32 with fail
                         go_quiet (fail)
                         go_wp2
                         go_roundw
                         case rel => exact ⟨i + 1, by go_num, by omega, below_drewN0 hb _⟩
                         case measure => simp [intOf]; omega
                   · have hi64' : ¬ (i : Int) < 64 := by omega
                     have b10 := b9.trans (hb.mono b9.size)
                     clear hb
                     go_wp2_with (go_at_call 24; refine (HA.out _).mono ?_; rintro e w16 ⟨rfl, b16⟩)
                     go_ret
                     exact ⟨rfl, b10.trans (b16.mono b10.size)⟩
               · have hEb : ¬ EE = 0 := hE
                 have hl := HF2.out hE
                 have eN : NW = MI := by rw [← HNW.out, hl, HMI.out]
                 have eH : HS = HD := by rw [← HHS.out, hl, HHD.out]
                 subst eN eH
                 rw [hl] at c9
                 have hpg := pages_any c9
                 rw [HK.out] at hpg
                 have he : ∀ w, (Op.equalIn 10000 42 (.agg (bs NW)) (.agg (bs NW))).run Try.prog w = .ok true w := fun w => by rw [equal_bytes 42 5 64 Try.underlying42 Try.underlying5 size5 cells5' NW NW HNL.out HNL.out w]; simp
                 have t1 : Hid (1 = 1) := rfl
                 clear HF2 HF3
                 go_wp2_with (first
                   | (have hh := t1; clear hh t1; refine load_row rfl 42 (.tmp 20) rfl X9 rfl 42 _ z1 64 5 Try.underlying42 size42 (by rw [bs_size]; exact HNL.out) ?_; have t2 : Hid (2 = 2) := rfl)
                   | (have hh := t2; clear hh t2; refine load_row rfl 42 (.tmp 13) rfl X3 rfl 42 _ z9 64 5 Try.underlying42 size42 (by rw [bs_size]; exact HNL.out) ?_)
                   | (go_at_call 22; refine hpg.mono ?_; clear hpg; rintro e w15 ⟨ga2, cap3, cur3, rfl, _, hb15, _⟩)
                   | (go_at_call 24; refine (HA.out _).mono ?_; rintro e w16 ⟨rfl, b16⟩))
                 go_ret
                 have b10 := b9.trans (hb15.mono b9.size)
                 exact ⟨rfl, b10.trans (b16.mono b10.size)⟩))
end Go.Proofs.Ytmnbfcmamhinbab.Ws
