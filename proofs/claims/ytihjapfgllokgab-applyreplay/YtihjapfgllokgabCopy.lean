/-
  Proved here: a copy of an undo page (slices.Clone, slot.cloned, and the document's Kept) has the same records, in new memory.
-/
import Derived.Test.YtihjapfgllokgabMay
import Derived.Laws.Cover3
namespace Go.Proofs.Ytihjapfgllokgab
open Go.ChangeShapes Go.WideShapes Go.ChangeAt Go.RowKit
set_option linter.unusedVariables false
set_option linter.unusedSimpArgs false
set_option maxRecDepth 20000

theorem wp_copy {T : Value → World → Prop} {w : World} {o : Oper} {a : Act} {K : Act → World → Prop} {Q : Exit → Act → World → Prop} (s x : Operand) (t : TypeId)
    (ho : o.op = .call { callee := .builtin .append, args := #[s, x], argTypes := #[t, t] }) (sv v : Value) (hs : a.eval s = sv) (hx : a.eval x = v)
    (hr : ∀ ty, ∃ v' w', (Builtin.append_ #[t, t] ty #[sv, v]).run Try.prog w = .ok v' w' ∧ T v' w')
    (h : ∀ v' w', T v' w' → K (a.put o.dst v') w') : Oper.wp Try.prog o a w K Q := by
  obtain ⟨v', w', hrun, hT⟩ := hr o.type
  unfold Oper.wp
  simp [execOp, ho, resolve, invoke, builtin, hs, hx, hrun, Result.andThen]
  exact h v' w' hT
theorem wpList_copy {T : Value → World → Prop} {w : World} {ops : Array Oper} {rest : List Oper} {o : Oper} {a : Act} {Q : Exit → Act → World → Prop} (hgd : o.guard = none) (s x : Operand) (t : TypeId)
    (ho : o.op = .call { callee := .builtin .append, args := #[s, x], argTypes := #[t, t] }) (sv v : Value) (hs : a.eval s = sv) (hx : a.eval x = v)
    (hr : ∀ ty, ∃ v' w', (Builtin.append_ #[t, t] ty #[sv, v]).run Try.prog w = .ok v' w' ∧ T v' w')
    (h : ∀ v' w', T v' w' → wpList Try.prog ops Q rest (a.put o.dst v') w') : wpList Try.prog ops Q (o :: rest) a w := by
  refine wpList_plain hgd fun K hK => ?_
  obtain ⟨v', w', hrun, hT⟩ := hr o.type
  unfold Oper.wp
  simp [execOp, ho, resolve, invoke, builtin, hs, hx, hrun, Result.andThen]
  exact hK _ _ (h v' w' hT)

/-- A copy by append to a new one. -/
theorem run_copy (w : World) (ty : TypeId) (v : Value) (os : List O) (h : Olds w v os) (hn : os.length ≤ 1000000000) :
    ∃ v' w', (Builtin.append_ #[62, 62] ty #[.slice (some ⟨w.heap.size, 0, none⟩) 0 0, v]).run Try.prog (w.alloc (.cells #[] 35)) = .ok v' w' ∧ Own w' w.heap.size v' os ∧ Below w.heap.size w w' := by
  obtain ⟨i, hi, hz, hs, hb⟩ := info_parts info35
  have hown : (w.alloc (.cells #[] 35)).ownsRow w.heap.size 35 6 (.slice (some ⟨w.heap.size, 0, none⟩) 0 0) 0 [] := World.ownsRow_made w #[] 0 (Nat.le_refl _) (Nat.zero_le _) rfl
  have b0 : Below w.heap.size w (w.alloc (.cells #[] 35)) := (Below.refl _ _).alloc (Nat.le_refl _) _
  rcases h with ⟨rfl, rfl⟩ | ⟨a, cap, rfl, hc⟩
  · exact ⟨_, _, run_append_owned_none (P := Try.prog) (w := w.alloc (.cells #[] 35)) w.heap.size 62 ty 35 i 6 Try.underlying62 hi _ 0 [] hown, hown, b0⟩
  · obtain ⟨v', w', hr, h2, h3, h4, h5⟩ := run_append_own_at (P := Try.prog) (w.alloc (.cells #[] 35)) w.heap.size 62 ty 35 i _ 6 32 Try.underlying62 hi hz hs hb rfl (by decide) _ 0 [] hown a os.length cap (flat os) (flat_length os) (fun j u hj => cell_keep (hc j u hj) b0) (flat_one os) (by unfold maxLen; omega) (by omega) (by simp)
    refine ⟨v', w', hr, ?_, b0.grown h3 (by simp) (fun k hk => ?_)⟩
    · unfold Own; simpa using h2
    · simp [Value.ownBlock] at hk
      omega
/-- .. the same behind a draw. -/
theorem run_copy' (w : World) (ty : TypeId) (v : Value) (os : List O) (h : Olds w v os) (hn : os.length ≤ 1000000000) :
    ∃ v' w', (Builtin.append_ #[62, 62] ty #[.slice (some ⟨w.heap.size, 0, none⟩) 0 0, v]).run Try.prog (w.alloc (.cells #[] 35)).drew = .ok v' w' ∧ Own w' w.heap.size v' os ∧ Below w.heap.size w w' := by
  obtain ⟨i, hi, hz, hs, hb⟩ := info_parts info35
  have hown : (w.alloc (.cells #[] 35)).drew.ownsRow w.heap.size 35 6 (.slice (some ⟨w.heap.size, 0, none⟩) 0 0) 0 [] := World.ownsRow_made w #[] 0 (Nat.le_refl _) (Nat.zero_le _) rfl
  have b0 : Below w.heap.size w (w.alloc (.cells #[] 35)).drew := ((Below.refl _ _).alloc (Nat.le_refl _) _).drew
  rcases h with ⟨rfl, rfl⟩ | ⟨a, cap, rfl, hc⟩
  · exact ⟨_, _, run_append_owned_none (P := Try.prog) (w := (w.alloc (.cells #[] 35)).drew) w.heap.size 62 ty 35 i 6 Try.underlying62 hi _ 0 [] hown, hown, b0⟩
  · obtain ⟨v', w', hr, h2, h3, h4, h5⟩ := run_append_own_at (P := Try.prog) (w.alloc (.cells #[] 35)).drew w.heap.size 62 ty 35 i _ 6 32 Try.underlying62 hi hz hs hb rfl (by decide) _ 0 [] hown a os.length cap (flat os) (flat_length os) (fun j u hj => cell_keep (hc j u hj) b0) (flat_one os) (by unfold maxLen; omega) (by omega) (by simp)
    refine ⟨v', w', hr, ?_, b0.grown h3 (by simp) (fun k hk => ?_)⟩
    · unfold Own; simpa using h2
    · simp [Value.ownBlock] at hk
      omega
/-- Behind a copy. -/
def Cop (w : World) (os : List O) (e : Ending) (w' : World) : Prop := ∃ v', e = .returned v' ∧ Own w' w.heap.size v' os ∧ Below w.heap.size w w'
/-- Behind a copy of a page. -/
def CopU (w : World) (lsn : Int) (os : List O) (e : Ending) (w' : World) : Prop := ∃ v', e = .returned (.agg #[.int .u64 lsn, v']) ∧ Own w' w.heap.size v' os ∧ Below w.heap.size w w'
theorem Own.alloc {w : World} {base : Nat} {v : Value} {os : List O} (h : Own w base v os) (o : Obj) : Own (w.alloc o) base v os := h.keep ((Below.refl _ _).alloc (Nat.le_refl _) _)
theorem step_of {P : Program} {ops : Array Oper} {o : Oper} {a : Act} {w : World} {K : Act → World → Prop} {Q : Exit → Act → World → Prop} {E : Prop} (hgd : o.guard = none) (h : Oper.wp P o a w K Q) :
    if Region.wanted o (yielded ops a.tmps) = true then Oper.wp P o a w K Q else E := by
  have hw : Region.wanted o (yielded ops a.tmps) = true := by simp [Region.wanted, hgd]
  rw [if_pos hw]; exact h
theorem row_at {w : World} {g : Nat} {cs : Array Value} {t : TypeId} (h : Row w g cs t) (j : Nat) (v : Value) (hv : cs[j]? = some v) : w.cell? ⟨g, j, none⟩ = some v := by
  rw [cell_of_row w g j _ _ _ h, hv]
theorem row_set {w : World} {g : Nat} {cs : Array Value} {t : TypeId} (h : Row w g cs t) (j : Nat) (x : Value) : Row (w.setCell ⟨g, j, none⟩ x) g (cs.setIfInBounds j x) t := by
  rw [setCell_eq_setRow w g j cs t (0, 0) _ h]; exact h.set _
theorem step_cells {P : Program} {ops : Array Oper} {o : Oper} {a : Act} {w : World} {K : Act → World → Prop} {Q : Exit → Act → World → Prop} {E : Prop} (hgd : o.guard = none) (ty : TypeId) (x y : Operand) (ho : o.op = .store ty x y)
    (g : Nat) (cs : Array Value) (hx : a.eval x = .pointer (some ⟨g, 0, none⟩)) (hy : a.eval y = .agg cs)
    (t : TypeId) (old : Array Value) (hg : Row w g old t) (n : Nat) (hi : (P.info? ty).map (·.size) = some n)
    (hold : old.size = n) (hn : cs.size = n) (h1 : cs.all (·.oneCell') = true) (h : K (a.put o.dst undef) (w.setRow g cs)) :
    if Region.wanted o (yielded ops a.tmps) = true then Oper.wp P o a w K Q else E := by
  have hw : Region.wanted o (yielded ops a.tmps) = true := by simp [Region.wanted, hgd]
  rw [if_pos hw]
  exact wp_store_row ty x y ho g cs hx hy t old hg (by rw [hi, hn]) (by rw [hold, hn]) h1 h
theorem ret_cell {P : Program} {fn : Func} {p : Tmp} {ty : TypeId} (h : fn.results = #[.cell p ty]) (tmps : Array Value) (w : World) (g : Nat) (t : TypeId) (cs : Array Value) (d : TypeDesc)
    (hp : tmps.getD p undef = .pointer (some ⟨g, 0, none⟩)) (hg : Row w g cs t)
    (hu : P.underlying ty = some d) (hd : (match d with | .struct _ | .array _ _ => true | _ => false) = true) (hi : (P.info? ty).map (·.size) = some cs.size) :
    (results fn tmps).run P w = .ok (.agg cs) w := results_cell_row h tmps w g t cs (0, 0) d hp hg hu hd hi
theorem ret_cell2 {P : Program} {fn : Func} {p c : Tmp} {ty : TypeId} (h : fn.results = #[.cell p ty, .tmp c]) (tmps : Array Value) (w : World) (g : Nat) (t : TypeId) (cs : Array Value) (d : TypeDesc) (y : Value)
    (hp : tmps.getD p undef = .pointer (some ⟨g, 0, none⟩)) (hc : tmps.getD c undef = y) (hg : Row w g cs t)
    (hu : P.underlying ty = some d) (hd : (match d with | .struct _ | .array _ _ => true | _ => false) = true) (hi : (P.info? ty).map (·.size) = some cs.size) :
    (results fn tmps).run P w = .ok (.tuple #[.agg cs, y]) w := by
  have hp' : tmps[p]?.getD undef = .pointer (some ⟨g, 0, none⟩) := by simpa using hp
  have hc' : tmps[c]?.getD undef = y := by simpa using hc
  simp [results, h, hp', hc', asAddr, run_loadVar_row w g t ty cs (0, 0) _ hg hu hd hi]
theorem ret_cell3 {P : Program} {fn : Func} {p c c' : Tmp} {ty : TypeId} (h : fn.results = #[.cell p ty, .tmp c, .tmp c']) (tmps : Array Value) (w : World) (g : Nat) (t : TypeId) (cs : Array Value) (d : TypeDesc) (y y' : Value)
    (hp : tmps.getD p undef = .pointer (some ⟨g, 0, none⟩)) (hc : tmps.getD c undef = y) (hc' : tmps.getD c' undef = y') (hg : Row w g cs t)
    (hu : P.underlying ty = some d) (hd : (match d with | .struct _ | .array _ _ => true | _ => false) = true) (hi : (P.info? ty).map (·.size) = some cs.size) :
    (results fn tmps).run P w = .ok (.tuple #[.agg cs, y, y']) w := by
  have hp' : tmps[p]?.getD undef = .pointer (some ⟨g, 0, none⟩) := by simpa using hp
  have h1 : tmps[c]?.getD undef = y := by simpa using hc
  have h2 : tmps[c']?.getD undef = y' := by simpa using hc'
  simp [results, h, hp', h1, h2, asAddr, run_loadVar_row w g t ty cs (0, 0) _ hg hu hd hi]
theorem Own.form {w : World} {base : Nat} {v : Value} {os : List O} (h : Own w base v os) : ∃ oa cap, v = .slice oa os.length cap := by
  rcases h.2 with ⟨rfl, h2⟩ | ⟨g, cap, cur, rfl, _⟩
  · exact ⟨none, 0, by rw [h2]⟩
  · exact ⟨_, cap, rfl⟩
theorem Own.base {w : World} {base base' : Nat} {v : Value} {os : List O} (h : Own w base v os) (hb : base' ≤ base) : Own w base' v os := by
  obtain ⟨h1, h2⟩ := h
  refine ⟨h1, ?_⟩
  rcases h2 with h2 | ⟨g, cap, cur, rfl, hb', rest⟩
  · exact Or.inl h2
  · exact Or.inr ⟨g, cap, cur, rfl, by omega, rest⟩
theorem Own.setRow {w : World} {base : Nat} {v : Value} {os : List O} (h : Own w base v os) (j : Nat) (hj : j < base) (cs : Array Value) : Own (w.setRow j cs) base v os := by
  have hl := World.ownsRow.lt h
  obtain ⟨h1, h2⟩ := h
  refine ⟨h1, ?_⟩
  rcases h2 with h2 | ⟨g, cap, cur, rfl, hb', hc, rest⟩
  · exact Or.inl h2
  · exact Or.inr ⟨g, cap, cur, rfl, hb', by rw [setRow_other w j g cs (by omega)]; exact hc, rest⟩
set_option maxHeartbeats 1000000 in
theorem kept_any (lsn : Int) (v : Value) (os : List O) (w : World) (h : Olds w v os) (hn : os.length ≤ 1000000000) : Calls Try.prog 55 #[.agg #[.int .u64 lsn, v]] w fun e w' => CopU w lsn os e w' := by
  obtain ⟨oa, cap, rfl, _⟩ := h.open
  obtain ⟨n, HN⟩ : ∃ n, Hid (os.length = n) := ⟨_, rfl⟩
  rw [HN.out] at h ⊢
  have r0 : Row ((w.alloc (.cells #[.int .u64 lsn, .slice oa n cap] 64)).alloc (.cells #[.int .u64 0, .slice none 0 0] 64)) w.heap.size #[.int .u64 lsn, .slice oa n cap] 64 := (Row.new _ _ _).alloc _
  have r1 : Row ((w.alloc (.cells #[.int .u64 lsn, .slice oa n cap] 64)).alloc (.cells #[.int .u64 0, .slice none 0 0] 64)) (w.heap.size + 1) #[.int .u64 0, .slice none 0 0] 64 := by have := Row.new (w.alloc (.cells #[.int .u64 lsn, .slice oa n cap] 64)) #[.int .u64 0, .slice none 0 0] 64; simpa using this
  have ab : Below w.heap.size w ((w.alloc (.cells #[.int .u64 lsn, .slice oa n cap] 64)).alloc (.cells #[.int .u64 0, .slice none 0 0] 64)) := ((Below.refl _ _).alloc (Nat.le_refl _) _).alloc (by simp) _
  have hz := zero64
  have hsz : Hid (((w.alloc (.cells #[.int .u64 lsn, .slice oa n cap] 64)).alloc (.cells #[.int .u64 0, .slice none 0 0] 64)).heap.size = w.heap.size + 2) := by simp [Hid]
  go_enter Try.func55, Try.ntmps55
  go_upto_region 1 with fail
  generalize (w.alloc (.cells #[.int .u64 lsn, .slice oa n cap] 64)).alloc (.cells #[.int .u64 0, .slice none 0 0] 64) = w1 at r0 r1 ab hsz ⊢
  refine wp_region_held_drew (S := fun w' => Row w' w.heap.size #[.int .u64 lsn, .slice oa n cap] 64) (by kernel_rfl) r0 fun hS => ?_
  refine wpAnyH_take (i := 0) (v := .pointer (some ⟨w.heap.size, 0, none⟩)) rfl (by kernel_rfl) (by kernel_rfl) (by kernel_rfl) (fun _ _ _ h => h) (Or.inl ⟨by rfl, fun w _ => by go_simp⟩) hS ?_
  try simp only [Act.put, List.getElem_toArray, List.getElem_cons_zero, List.getElem_cons_succ, List.setIfInBounds_toArray, List.set_cons_zero, List.set_cons_succ]
  refine wpAnyH_take (i := 1) (v := .int .u64 lsn) rfl (by kernel_rfl) (by kernel_rfl) (by kernel_rfl) (fun _ _ _ h => h) (Or.inl ⟨by rfl, fun w h => by have c := row_at h 0 _ rfl; go_simp⟩) hS ?_
  try simp only [Act.put, List.getElem_toArray, List.getElem_cons_zero, List.getElem_cons_succ, List.setIfInBounds_toArray, List.set_cons_zero, List.set_cons_succ]
  refine wpAnyH_take (i := 3) (v := .pointer (some ⟨w.heap.size, 1, none⟩)) rfl (by kernel_rfl) (by kernel_rfl) (by kernel_rfl) (fun _ _ _ h => h) (Or.inl ⟨by rfl, fun w _ => by go_simp⟩) hS ?_
  try simp only [Act.put, List.getElem_toArray, List.getElem_cons_zero, List.getElem_cons_succ, List.setIfInBounds_toArray, List.set_cons_zero, List.set_cons_succ]
  refine wpAnyH_take (i := 4) (v := .slice oa n cap) rfl (by kernel_rfl) (by kernel_rfl) (by kernel_rfl) (fun _ _ _ h => h) (Or.inl ⟨by rfl, fun w h => by have c := row_at h 1 _ rfl; go_simp⟩) hS ?_
  try simp only [Act.put, List.getElem_toArray, List.getElem_cons_zero, List.getElem_cons_succ, List.setIfInBounds_toArray, List.set_cons_zero, List.set_cons_succ]
  refine wpAnyH_ready (rs := [2]) (by kernel_rfl) (by simp) ?_
  refine AllReadyH.cons rfl (fun K hK => ?_) AllReadyH.nil
  go_simp
  refine hK.out _ _ (hS.alloc _) fun hS => ?_
  try simp only [Act.put, List.getElem_toArray, List.getElem_cons_zero, List.getElem_cons_succ, List.setIfInBounds_toArray, List.set_cons_zero, List.set_cons_succ]
  have hr := fun ty => run_copy' w1 ty (.slice oa n cap) os (h.keep ab) hn
  refine wpAnyH_ready (rs := [5]) (by kernel_rfl) (by simp) ?_
  refine AllReadyH.cons rfl (fun K hK => step_of rfl (wp_copy (.tmp 5) (.tmp 7) 62 rfl _ _ rfl rfl (T := fun v' w' => Own w' w1.heap.size v' os ∧ Below w1.heap.size w1 w') (fun ty => hr ty) ?_)) AllReadyH.nil
  rintro v' wc ⟨hO, hcb⟩
  refine hK.out _ _ (r0.below hcb r0.lt) fun hS => ?_
  try simp only [Act.put, List.getElem_toArray, List.getElem_cons_zero, List.getElem_cons_succ, List.setIfInBounds_toArray, List.set_cons_zero, List.set_cons_succ]
  have r2 := r1.below hcb r1.lt
  obtain ⟨oa', cap', rfl⟩ := hO.form
  have bc : Below w.heap.size w wc := ab.trans (hcb.mono (by simp [hsz.out]))
  have hO2 : Own wc (w.heap.size + 2) (.slice oa' os.length cap') os := hO.base (by simp [hsz.out])
  refine wpAnyH_take (i := 6) (v := .agg #[.int .u64 lsn, .slice oa' os.length cap']) rfl (by kernel_rfl) (by kernel_rfl) (by kernel_rfl) (fun _ _ _ h => h) (Or.inl ⟨by rfl, fun w _ => by go_simp⟩) hS ?_
  try simp only [Act.put, List.getElem_toArray, List.getElem_cons_zero, List.getElem_cons_succ, List.setIfInBounds_toArray, List.set_cons_zero, List.set_cons_succ]
  refine wpAnyH_ready (rs := [7]) (by kernel_rfl) (by simp) ?_
  refine AllReadyH.cons rfl (fun K hK => step_cells rfl 64 (.tmp 2) (.tmp 9) rfl (w.heap.size + 1) #[.int .u64 lsn, .slice oa' os.length cap'] rfl rfl 64 _ r2 2 size64 rfl rfl (by simp [Value.oneCell']) (hK.out _ _ (hS.other (by omega) _) fun hS => ?_)) AllReadyH.nil
  try simp only [Act.put, List.getElem_toArray, List.getElem_cons_zero, List.getElem_cons_succ, List.setIfInBounds_toArray, List.set_cons_zero, List.set_cons_succ]
  refine wpAnyH_done (by kernel_rfl) ?_ _
  go_wp2
  refine bodyPost_ret (v := .agg #[.int .u64 lsn, .slice oa' os.length cap']) ?_ rfl ⟨_, rfl, (hO2.setRow (w.heap.size + 1) (by omega) _).base (by omega), below_setRow bc (by omega) _⟩
  exact ret_cell (fn := Try.f55) rfl _ _ (w.heap.size + 1) 64 #[.int .u64 lsn, .slice oa' os.length cap'] _ rfl (r2.set _) Try.underlying64 rfl size64
end Go.Proofs.Ytihjapfgllokgab
