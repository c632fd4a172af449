/-
  Plain facts on slices of one-cell elements: what one holds, and a copy of it by append to a new one. Proved here: what disk.forget and disk.Plan leave. Proved here: what disk.Crash leaves.
-/
import Derived.Test.YtehogiondcpbcaaJq04
import Derived.Laws.AppendOwnNone
namespace Go.Proofs.Ytehogiondcpbcaa
open Go.ChangeShapes Go.WideShapes Go.ChangeAt Go.RowKit
set_option linter.unusedVariables false
set_option linter.unusedSimpArgs false
set_option maxRecDepth 20000
def Cel (w : World) (v : Value) (cs : List Value) : Prop :=
  (v = .slice none 0 0 ∧ cs = []) ∨ ∃ a cap, v = .slice (some a) cs.length cap ∧ ∀ j u, cs[j]? = some u → w.cell? (a.add j) = some u
theorem Cel.below {w w' : World} {v : Value} {cs : List Value} (h : Cel w v cs) (hb : ∀ a n c, v = .slice (some a) n c → w'.heap[a.block]? = w.heap[a.block]?) : Cel w' v cs := by
  rcases h with h | ⟨a, cap, rfl, h⟩
  · exact Or.inl h
  · refine Or.inr ⟨a, cap, rfl, fun j u hj => ?_⟩
    rw [← h j u hj]
    refine World.cell?_of_block ?_
    have : (a.add j).block = a.block := by unfold Addr.add; split <;> rfl
    rw [this]; exact hb a _ _ rfl
def High (B : Nat) (v : Value) : Prop := ∀ a n c, v = .slice (some a) n c → B ≤ a.block
theorem Cel.keep {w w' : World} {v : Value} {cs : List Value} (h : Cel w v cs) (hb : Below w.heap.size w w') : Cel w' v cs := by
  rcases h with h | ⟨a, cap, rfl, h⟩
  · exact Or.inl h
  · refine Or.inr ⟨a, cap, rfl, fun j u hj => ?_⟩
    have h0 := h j u hj
    rw [← h0]
    refine World.cell?_of_block (hb.block _ ?_)
    unfold World.cell? at h0
    by_cases q : (a.add j).block < w.heap.size
    · exact q
    · rw [Array.getElem?_eq_none (by omega)] at h0; cases h0
theorem Cel.of_owns {w : World} {base : Nat} {e : TypeId} {v : Value} {n : Nat} {cs : List Value} (h : w.ownsRow base e 1 v n cs) : Cel w v cs ∧ High base v := by
  have hc := fun g hg => h.cells (g := g) hg
  have hl := h.lt
  obtain ⟨h1, h2⟩ := h
  rcases h2 with ⟨rfl, rfl⟩ | ⟨g, cap, cur, rfl, hb, hg, _⟩
  · refine ⟨Or.inl ⟨rfl, List.eq_nil_of_length_eq_zero (by simpa using h1)⟩, fun a n c e => by cases e⟩
  · refine ⟨Or.inr ⟨⟨g, 0, none⟩, cap, by rw [h1, Nat.mul_one], hc g rfl⟩, fun a n c e => ?_⟩
    cases e
    exact (hl g rfl).1
theorem run_copy {P : Program} (w : World) (t ty e : TypeId) (i : TypeInfo) (z : Value) (bytes : Nat) (ht : P.underlying t = some (.slice e)) (hi : P.info? e = some i) (hz : i.zero = some z) (hs : i.size = 1) (hby : i.bytes = bytes) (hzs : z.cells.size = 1)
    (v : Value) (cs : List Value) (h : Cel w v cs) (h1 : ∀ u ∈ cs, u.oneCell' = true) (h63 : cs.length * bytes ≤ 140737488355328) (hp : 0 < bytes) :
    ∃ v' w', (Builtin.append_ #[t, t] ty #[.slice (some ⟨w.heap.size, 0, none⟩) 0 0, v]).run P (w.alloc (.cells #[] e)) = .ok v' w' ∧ Cel w' v' cs ∧ High w.heap.size v' ∧ Below w.heap.size w w' := by
  have hown : (w.alloc (.cells #[] e)).ownsRow w.heap.size e 1 (.slice (some ⟨w.heap.size, 0, none⟩) 0 0) 0 [] := World.ownsRow_made w #[] 0 (Nat.le_refl _) (Nat.zero_le _) rfl
  have hlen : cs.length ≤ 140737488355328 := by
    have : cs.length * 1 ≤ cs.length * bytes := Nat.mul_le_mul_left _ hp
    omega
  have b0 : Below w.heap.size w (w.alloc (.cells #[] e)) := (Below.refl _ _).alloc (Nat.le_refl _) _
  rcases h with ⟨rfl, rfl⟩ | ⟨a, cap, rfl, hc⟩
  · refine ⟨_, _, run_append_owned_none (P := P) (w := w.alloc (.cells #[] e)) w.heap.size t ty e i 1 ht hi _ 0 [] hown, ?_⟩
    have := Cel.of_owns hown
    exact ⟨this.1, this.2, b0⟩
  · have hc' : ∀ j u, cs[j]? = some u → (w.alloc (.cells #[] e)).cell? (a.add j) = some u := fun j u hj => by
      have h0 := hc j u hj
      have hlt : (a.add j).block < w.heap.size := by
        unfold World.cell? at h0
        by_cases q : (a.add j).block < w.heap.size
        · exact q
        · rw [Array.getElem?_eq_none (by omega)] at h0; cases h0
      rw [← h0]
      exact World.cell?_of_block (Below.heap_alloc _ _ _ hlt)
    obtain ⟨v', w', hr, h2, h3, h4, h5⟩ := run_append_own_at (P := P) (w.alloc (.cells #[] e)) w.heap.size t ty e i z 1 bytes ht hi hz hs hby hzs (by decide) _ 0 [] hown a cs.length cap cs (by simp) hc' h1 (by unfold maxLen; omega) (by simpa using h63) (by simp)
    refine ⟨v', w', hr, ?_⟩
    simp only [List.nil_append, Nat.zero_add] at h2
    have := Cel.of_owns h2
    refine ⟨this.1, this.2, b0.grown h3 (by simp) (fun k hk => ?_)⟩
    simp [Value.ownBlock] at hk
    omega
theorem info3 : (Try.prog.info? 3).map (fun i => (i.zero, i.size, i.bytes)) = some (some (.int .i64 0), 1, 8) := by kernel_rfl
theorem wp_copy {T : Value → World → Prop} {w : World} {o : Oper} {a : Act} {K : Act → World → Prop} {Q : Exit → Act → World → Prop} (s x : Operand) (t : TypeId)
    (ho : o.op = .call { callee := .builtin .append, args := #[s, x], argTypes := #[t, t] }) (sv v : Value) (hs : a.eval s = sv) (hx : a.eval x = v)
    (hr : ∀ ty, ∃ v' w', (Builtin.append_ #[t, t] ty #[sv, v]).run Try.prog w = .ok v' w' ∧ T v' w')
    (h : ∀ v' w', T v' w' → K (a.put o.dst v') w') : Oper.wp Try.prog o a w K Q := by
  obtain ⟨v', w', hrun, hT⟩ := hr o.type
  unfold Oper.wp
  simp [execOp, ho, resolve, invoke, builtin, hs, hx, hrun, Result.andThen]
  exact h v' w' hT
theorem wpList_copy {T : Value → World → Prop} {w : World} {ops : Array Oper} {rest : List Oper} {o : Oper} {a : Act} {Q : Exit → Act → World → Prop} (hgd : o.guard = none) (s x : Operand) (t : TypeId)
    (ho : o.op = .call { callee := .builtin .append, args := #[s, x], argTypes := #[t, t] }) (sv v : Value) (hs : a.eval s = sv) (hx : a.eval x = v)
    (hr : ∀ ty, ∃ v' w', (Builtin.append_ #[t, t] ty #[sv, v]).run Try.prog w = .ok v' w' ∧ T v' w')
    (h : ∀ v' w', T v' w' → wpList Try.prog ops Q rest (a.put o.dst v') w') : wpList Try.prog ops Q (o :: rest) a w := by
  refine wpList_plain hgd fun K hK => ?_
  obtain ⟨v', w', hrun, hT⟩ := hr o.type
  unfold Oper.wp
  simp [execOp, ho, resolve, invoke, builtin, hs, hx, hrun, Result.andThen]
  exact hK _ _ (h v' w' hT)
def Dsk.forgot (d : Dsk) : Dsk := { d with pend := [] }
def Loc.forgot (L : Loc) (k : Nat) : Loc := { L with b := k, p := .slice none 0 0 }
theorem forget_at {w : World} {g : Nat} {d : Dsk} {L : Loc} {N : Nat} (row : Row w g (dcells d L) 88) (sure : ∃ s, SMap w L.a s d.sure ∧ s ≤ N) (fails : FMap w L.f d.fails) (fa : L.f ≠ .map (some L.a)) (big : N < 1000000000000) (small : 1 ≤ d.n ∧ d.n ≤ 2048) (opsn : 0 ≤ d.ops) (fusew : Wf d.fuse) :
    DAt (((w.alloc (.map #[] 0)).setCell ⟨g, 2, none⟩ (.map (some w.heap.size))).setCell ⟨g, 3, none⟩ (.slice none 0 0)) g d.forgot (L.forgot w.heap.size) N ∧ Off (· = g) w (((w.alloc (.map #[] 0)).setCell ⟨g, 2, none⟩ (.map (some w.heap.size))).setCell ⟨g, 3, none⟩ (.slice none 0 0)) := by
  have keep : ∀ j, j < w.heap.size → j ≠ g → (((w.alloc (.map #[] 0)).setCell ⟨g, 2, none⟩ (.map (some w.heap.size))).setCell ⟨g, 3, none⟩ (.slice none 0 0)).heap[j]? = w.heap[j]? := fun j hj hg => by
    rw [Below.heap_setCell _ _ _ _ hg, Below.heap_setCell _ _ _ _ hg, Below.heap_alloc _ _ _ hj]
  have gl := row.lt
  have ag : L.a ≠ g := by obtain ⟨s, hs, _⟩ := sure; exact row.map_ne hs
  refine ⟨⟨row_set (row_set (row.alloc _) 2 _) 3 _, ?_, ?_, ?_, World.ownsRow_nil _ _ _ _, ?_, fa, ?_, big, (fun q hq => nomatch hq), small, opsn, fusew⟩, ⟨rfl, rfl, rfl, by simp [World.setCell], fun k hk hn => keep k hk hn⟩⟩
  · obtain ⟨s, hs, hle⟩ := sure
    exact ⟨s, hs.kept (keep _ hs.lt ag), by simp [Dsk.forgot]; exact hle⟩
  · have h1 := SMap.made w
    refine h1.kept ?_
    show _ = _
    rw [Below.heap_setCell _ _ _ _ (by simp only [Loc.forgot]; omega), Below.heap_setCell _ _ _ _ (by simp only [Loc.forgot]; omega)]
  · obtain ⟨s, hs, _⟩ := sure
    have := hs.lt
    simp [Loc.forgot]; omega
  · exact fails.kept fun m e hm => keep m hm (fun q => by
      subst q
      rcases fails with ⟨q, _⟩ | ⟨m', n, D, q, ⟨es, clock, hb, _⟩, _⟩
      · have : L.f = .map (some m) := e
        rw [q] at this; cases this
      · have e' : L.f = .map (some m) := e
        rw [q] at e'; cases e'
        unfold Row at row
        rw [row] at hb; cases hb)
  · intro e
    rcases fails with ⟨q, _⟩ | ⟨m', n, D, q, hD, _⟩
    · have : L.f = .map (some w.heap.size) := e
      rw [q] at this; cases this
    · have e' : L.f = .map (some w.heap.size) := e
      rw [q] at e'; cases e'
      have := hD.lt; omega
theorem forget_any {w : World} {g : Nat} {d : Dsk} {L : Loc} {N : Nat} (row : Row w g (dcells d L) 88) (sure : ∃ s, SMap w L.a s d.sure ∧ s ≤ N) (fails : FMap w L.f d.fails) (fa : L.f ≠ .map (some L.a)) (big : N < 1000000000000) (small : 1 ≤ d.n ∧ d.n ≤ 2048) (opsn : 0 ≤ d.ops) (fusew : Wf d.fuse) :
    Calls Try.prog 60 #[.pointer (some ⟨g, 0, none⟩)] w fun e w' => e = .returned (.tuple #[]) ∧ DAt w' g d.forgot (L.forgot w.heap.size) N ∧ Off (· = g) w w' := by
  obtain ⟨hD, hO⟩ := forget_at row sure fails fa big small opsn fusew
  have hmm := @run_makeMap Try.prog
  have r1 := row.alloc (.map #[] 0)
  have c2 := row_at r1 2 (.map (some L.b)) rfl
  have f2 := row_frozen r1 2
  have r2 := row_set r1 2 (.map (some w.heap.size))
  have c3 := row_at r2 3 L.p rfl
  have f3 := row_frozen r2 3
  clear sure fails fa row
  go_enter Try.func60, Try.ntmps60
  go_wp2
  first
    | (go_end0; exact ⟨rfl, hD, hO⟩)
    | (refine bodyPost_ret (results_none rfl _ _ _) rfl ?_; exact ⟨rfl, hD, hO⟩)
def Dsk.plan (d : Dsk) (zl : List Int) (f : Int) : Dsk := { d with ops := 0, fuse := f, fails := fun i => decide (i ∈ zl) }
def Loc.plan (L : Loc) (m : Nat) : Loc := { L with f := .map (some m) }
theorem plan_at {w : World} {g : Nat} {d : Dsk} {L : Loc} {N : Nat} (h : DAt w g d L N) (f : Int) (hf : Wf f) :
    DAt ((((w.setCell ⟨g, 5, none⟩ (.int .i64 0)).setCell ⟨g, 6, none⟩ (.int .i64 f)).alloc (.map #[] 0)).setCell ⟨g, 7, none⟩ (.map (some w.heap.size))) g (d.plan [] f) (L.plan w.heap.size) N ∧
    NMap ((((w.setCell ⟨g, 5, none⟩ (.int .i64 0)).setCell ⟨g, 6, none⟩ (.int .i64 f)).alloc (.map #[] 0)).setCell ⟨g, 7, none⟩ (.map (some w.heap.size))) w.heap.size 0 (fun i => decide (i ∈ ([] : List Int))) ∧
    Off (· = g) w ((((w.setCell ⟨g, 5, none⟩ (.int .i64 0)).setCell ⟨g, 6, none⟩ (.int .i64 f)).alloc (.map #[] 0)).setCell ⟨g, 7, none⟩ (.map (some w.heap.size))) := by
  have h2 := ((h.setOps 0 (by omega)).setFuse f hf).alloc (.map #[] 0)
  have hs : ((w.setCell ⟨g, 5, none⟩ (.int .i64 0)).setCell ⟨g, 6, none⟩ (.int .i64 f)).heap.size = w.heap.size := by simp [World.setCell]
  have hm : NMap (((w.setCell ⟨g, 5, none⟩ (.int .i64 0)).setCell ⟨g, 6, none⟩ (.int .i64 f)).alloc (.map #[] 0)) w.heap.size 0 (fun i => decide (i ∈ ([] : List Int))) := by
    have := NMap.made ((w.setCell ⟨g, 5, none⟩ (.int .i64 0)).setCell ⟨g, 6, none⟩ (.int .i64 f))
    rw [hs] at this
    simpa using this
  have gl := h.row.lt
  have hm' : NMap ((((w.setCell ⟨g, 5, none⟩ (.int .i64 0)).setCell ⟨g, 6, none⟩ (.int .i64 f)).alloc (.map #[] 0)).setCell ⟨g, 7, none⟩ (.map (some w.heap.size))) w.heap.size 0 (fun i => decide (i ∈ ([] : List Int))) :=
    hm.kept (Below.heap_setCell _ _ _ _ (by simp; omega))
  have ho : Off (· = g) (((w.setCell ⟨g, 5, none⟩ (.int .i64 0)).setCell ⟨g, 6, none⟩ (.int .i64 f)).alloc (.map #[] 0)) ((((w.setCell ⟨g, 5, none⟩ (.int .i64 0)).setCell ⟨g, 6, none⟩ (.int .i64 f)).alloc (.map #[] 0)).setCell ⟨g, 7, none⟩ (.map (some w.heap.size))) := Off.of_setCell _ _ _ rfl
  have hal := h.lt (k := L.a) (Or.inr (Or.inl rfl))
  have hbl := h.fresh.lt
  refine ⟨⟨row_set h2.row 7 _, ?_, ?_, h.ab, ?_, hm'.fmap, ?_, ?_, h.big, h.okp, h.small, by simp [Dsk.plan], hf⟩, hm', ?_⟩
  · obtain ⟨s, hs, hle⟩ := h2.sure
    exact ⟨s, hs.off ho h2.ag, hle⟩
  · exact h2.fresh.off ho h2.bg
  · exact ownsRow_kept h2.pend fun k e hl => ho.block k hl (fun q => h2.pg (q ▸ e))
  · intro e; simp [Loc.plan] at e; omega
  · intro e; simp [Loc.plan] at e; omega
  · refine ⟨rfl, rfl, rfl, by simp [World.setCell], fun k hk hn => ?_⟩
    rw [Below.heap_setCell _ _ _ _ hn, Below.heap_alloc _ _ _ (by rw [hs]; exact hk), Below.heap_setCell _ _ _ _ hn, Below.heap_setCell _ _ _ _ hn]
theorem built132 : (Try.prog.built 132 []) = some #[] := by kernel_rfl
theorem DAt.moreFails {w w' : World} {g : Nat} {d : Dsk} {L : Loc} {N : Nat} (h : DAt w g d L N) {m n : Nat} (hm : L.f = .map (some m)) (gr : w.grownBy w' (some m)) {f : Int → Bool} (nm : NMap w' m n f) : DAt w' g { d with fails := f } L N := by
  have ne : ∀ k, foot g L k → k ≠ m → k < w.heap.size → w'.heap[k]? = w.heap[k]? := fun k _ hk hl => gr.block k hl (fun q => hk (by cases q; rfl))
  have mg : g ≠ m := fun q => h.fg (q ▸ hm)
  have ma : L.a ≠ m := fun q => h.fa (q ▸ hm)
  have mb : L.b ≠ m := fun q => h.fb (q ▸ hm)
  have o : Off (· = m) w w' := Off.of_grown gr (fun k hk => by cases hk; rfl)
  exact { h with
    row := h.row.off o mg
    sure := by obtain ⟨s, hs, hle⟩ := h.sure; exact ⟨s, hs.off o ma, hle⟩
    fresh := h.fresh.off o mb
    pend := ownsRow_kept h.pend fun k e hl => o.block k hl (fun q => (h.pf hm).1 (q ▸ e))
    fails := by show FMap w' L.f f; rw [hm]; exact nm.fmap }
theorem take_mem (zl : List Int) (k : Nat) (hk : k < zl.length) : (fun i => decide (i ∈ zl.take k) || decide (i = zl.getD k 0)) = fun i => decide (i ∈ zl.take (k + 1)) := by
  funext i
  have e : zl.take (k + 1) = zl.take k ++ [zl.getD k 0] := by
    rw [List.take_add_one, List.getElem?_eq_getElem hk]
    simp [List.getD, hk]
  rw [e]
  simp [List.mem_append]
def Planned (w : World) (g : Nat) (d : Dsk) (L : Loc) (N : Nat) (w' : World) : Prop := ∃ m, w.heap.size ≤ m ∧ DAt w' g d (L.plan m) N ∧ Off (· = g) w w'
theorem cell_off {F : Nat → Prop} {w w' : World} {p : Addr} {u : Value} (h : w.cell? p = some u) (o : Off F w w') (hp : ¬ F p.block) : w'.cell? p = some u := by
  rw [← h]
  refine World.cell?_of_block (o.block _ ?_ hp)
  unfold World.cell? at h
  by_cases q : p.block < w.heap.size
  · exact q
  · rw [Array.getElem?_eq_none (by omega)] at h; cases h
theorem add_block (a : Addr) (j : Nat) : (a.add j).block = a.block := by unfold Addr.add; split <;> rfl
set_option maxHeartbeats 1000000 in
theorem plan_any {w : World} {g : Nat} {d : Dsk} {L : Loc} {N : Nat} (h : DAt w g d L N) (k : Value) (zl : List Int) (hc : Cel w k (zl.map (.int .i64))) (hne : ∀ a n c, k = .slice (some a) n c → a.block ≠ g) (zw : ∀ z ∈ zl, Wf z) (hl : zl.length * 8 ≤ 140737488355328) (f : Int) (hf : Wf f) :
    Calls Try.prog 24 #[.pointer (some ⟨g, 0, none⟩), k, .int .i64 f] w fun e w' => e = .returned (.tuple #[]) ∧ Planned w g (d.plan zl f) L N w' := by
  obtain ⟨D1, N1, O1⟩ := plan_at h f hf
  have hmm := @run_makeMap Try.prog
  have c5 := row_at h.row 5 (.int .i64 d.ops) rfl
  have f5 := row_frozen h.row 5
  have h1 := h.setOps 0 (by omega)
  have c6 := row_at h1.row 6 (.int .i64 d.fuse) rfl
  have f6 := row_frozen h1.row 6
  have h2 := (h1.setFuse f hf).alloc (.map #[] 0)
  have c7 := row_at h2.row 7 L.f rfl
  have f7 := row_frozen h2.row 7
  have hs2 : ((w.setCell ⟨g, 5, none⟩ (.int .i64 0)).setCell ⟨g, 6, none⟩ (.int .i64 f)).heap.size = w.heap.size := by simp [World.setCell]
  have HPL : Hid (∀ w', DAt w' g (d.plan zl f) (L.plan w.heap.size) N → Off (· = g) w w' → Planned w g (d.plan zl f) L N w') := fun w' a b => ⟨w.heap.size, Nat.le_refl _, a, b⟩
  generalize Planned w g (d.plan zl f) L N = PP at HPL ⊢
  rcases hc with ⟨rfl, hz⟩ | ⟨a, cap, rfl, hcell⟩
  · have hz' : zl = [] := by simpa using hz
    subst hz'
    have hp := HPL.out _ D1 O1
    clear h h1 h2 HPL
    go_enter Try.func24, Try.ntmps24
    go_wp2
    generalize ((((w.setCell ⟨g, 5, none⟩ (.int .i64 0)).setCell ⟨g, 6, none⟩ (.int .i64 f)).alloc (.map #[] 0)).setCell ⟨g, 7, none⟩ (.map (some w.heap.size))) = w1 at hp D1 N1 O1 ⊢
    go_loopw [23] (fun c wr => c = .int .i64 0 ∧ wr = w1) (fun _ _ => 0)
    case atStart => exact ⟨rfl, rfl⟩
    case round =>
      obtain ⟨rfl, rfl⟩ := hrel
      go_wp2
      first
        | (go_end0; exact ⟨rfl, hp⟩)
        | (refine bodyPost_ret (results_none rfl _ _ _) rfl ?_; exact ⟨rfl, hp⟩)
  · have hag : a.block ≠ g := hne a _ _ rfl
    have hlen : (zl.map (Value.int .i64)).length = zl.length := List.length_map ..
    have HCELL : Hid (∀ j, j < zl.length → w.cell? (a.add j) = some (.int .i64 (zl.getD j 0))) := fun j hj => by
      refine hcell j _ ?_
      rw [List.getElem?_map, List.getElem?_eq_getElem hj]
      simp [List.getD, hj]
    rw [hlen] at hne ⊢
    have HZ : Hid (∀ j, j < zl.length → Wf (zl.getD j 0)) := fun j hj => by
      have : zl.getD j 0 = zl[j] := by simp [List.getD, hj]
      rw [this]; exact zw _ (List.getElem_mem hj)
    have HT : Hid (∀ k, k < zl.length → (fun i => decide (i ∈ zl.take k) || decide (i = zl.getD k 0)) = fun i => decide (i ∈ zl.take (k + 1))) := take_mem zl
    have hall : Hid ((fun i => decide (i ∈ zl.take zl.length)) = fun i => decide (i ∈ zl)) := by show _ = _; rw [List.take_length]
    clear h h1 h2 hcell zw hne hlen
    have hl' : zl.length ≤ 17592186044416 := by omega
    clear hl
    obtain ⟨n, HN⟩ : ∃ n, Hid (zl.length = n) := ⟨_, rfl⟩
    rw [HN.out] at HCELL HZ HT hall hl' ⊢
    go_enter Try.func24, Try.ntmps24
    go_wp2
    generalize ((((w.setCell ⟨g, 5, none⟩ (.int .i64 0)).setCell ⟨g, 6, none⟩ (.int .i64 f)).alloc (.map #[] 0)).setCell ⟨g, 7, none⟩ (.map (some w.heap.size))) = w1 at D1 N1 O1 ⊢
    have D1' : DAt w1 g { d.plan zl f with fails := fun i => decide (i ∈ zl.take 0) } (L.plan w.heap.size) N := by rw [List.take_zero]; exact D1
    have N1' : NMap w1 w.heap.size 0 (fun i => decide (i ∈ zl.take 0)) := by rw [List.take_zero]; exact N1
    go_loopw [23] (fun c wr => ∃ k : Nat, c = .int .i64 k ∧ k ≤ n ∧ DAt wr g { d.plan zl f with fails := fun i => decide (i ∈ zl.take k) } (L.plan w.heap.size) N ∧ NMap wr w.heap.size k (fun i => decide (i ∈ zl.take k)) ∧ Off (· = g) w wr) (fun c _ => n - (intOf c).toNat)
    case atStart => exact ⟨0, rfl, Nat.zero_le _, D1', N1', O1⟩
    case round =>
      clear D1 N1 O1 D1' N1' c5 f5 c6 f6 c7 f7 hs2
      obtain ⟨k, rfl, hk, Dk, Nk, Ok⟩ := hrel
      by_cases hkn : k < n
      · have hz := HZ.out k hkn
        have hcel := cell_off (HCELL.out k hkn) Ok (by rw [add_block]; exact hag)
        have ht := HT.out k hkn
        obtain ⟨z, HZZ⟩ : ∃ z, Hid (zl.getD k 0 = z) := ⟨_, rfl⟩
        rw [HZZ.out] at hz hcel ht
        have c7 := row_at Dk.row 7 (.map (some w.heap.size)) rfl
        obtain ⟨w2, hrun, N2, g2, s2⟩ := Nk.store (by unfold maxLen; omega) hz
        rw [ht] at N2
        have D2 := Dk.moreFails (m := w.heap.size) rfl g2 N2
        have O2 : Off (· = g) w w2 := Ok.trans (Off.of_grown (F := (· = w.heap.size)) g2 (fun q hq => by cases hq; rfl)) (fun j hj => Or.inr (by omega))
        clear Dk Nk Ok s2 g2 ht
        have hk64 : (k : Int) < 9223372036854775807 := by omega
        go_wp2_with (first
          | (refine build_none rfl 132 rfl #[] built132 ?_)
          | (at_mapUpdate; refine wpList_plain rfl fun K hK => wp_update 86 (.tmp 30) (.tmp 31) (.tmp 32) rfl _ _ _ rfl rfl rfl w2 hrun (hK _ _ ?_)))
        go_roundw
        case rel => exact ⟨k + 1, by go_num, by omega, D2, N2, O2⟩
        case measure => simp [intOf]; omega
      · have e : k = n := by omega
        subst e
        have hp : PP wr := HPL.out wr (by rw [hall.out] at Dk; exact Dk) Ok
        go_wp2
        first
          | (go_end0; exact ⟨rfl, hp⟩)
          | (refine bodyPost_ret (results_none rfl _ _ _) rfl ?_; exact ⟨rfl, hp⟩)
def kept (ps : List (Int × Int × List Int)) (bl : List Bool) : Nat → List (Int × Int × List Int)
  | 0 => []
  | k + 1 => if bl.getD k false = true then kept ps bl k ++ [ps.getD k (0, 0, [])] else kept ps bl k
def Dsk.crash (d : Dsk) (bl : List Bool) : Dsk := ⟨d.n, over d.sure (kept d.pend bl d.pend.length), [], false, 0, 0, fun i => decide (i ∈ ([] : List Int))⟩
def Crashed (w : World) (g : Nat) (d : Dsk) (L : Loc) (N : Nat) (w' : World) : Prop := ∃ L', DAt w' g d L' N ∧ Off (foot g L) w w' ∧ ∀ j, foot g L' j → foot g L j ∨ w.heap.size ≤ j
theorem crash_off {w w1 w2 w3 : World} {g : Nat} {L : Loc} (o1 : Off (· = L.a) w w1) (o2 : Off (· = g) w1 w2) (o3 : Off (· = g) w2 w3) : Off (foot g L) w (w3.setCell ⟨g, 4, none⟩ (.bool false)) :=
  (((o1.mono (F' := foot g L) (fun j hj => Or.inl (Or.inr (Or.inl hj)))).trans o2 (fun j hj => Or.inl (Or.inl hj))).trans o3 (fun j hj => Or.inl (Or.inl hj))).trans (Off.of_setCell (F := (· = g)) _ _ _ rfl) (fun j hj => Or.inl (Or.inl hj))
theorem crash_foot {g m : Nat} {L : Loc} {w w1 w2 : World} (hb : L.b < w.heap.size) (h1 : w.heap.size ≤ w1.heap.size) (h2 : w1.heap.size ≤ w2.heap.size) (hm : w2.heap.size ≤ m) : ∀ j, foot g ((L.forgot w1.heap.size).plan m) j → foot g L j ∨ w.heap.size ≤ j := by
  rintro j (rfl | rfl | rfl | e | e)
  · exact Or.inl (Or.inl rfl)
  · exact Or.inl (Or.inr (Or.inl rfl))
  · exact Or.inr h1
  · simp [Loc.plan, Loc.forgot, Value.ownBlock] at e
  · simp [Loc.plan] at e; exact Or.inr (by omega)
theorem pend_range {w : World} {r n cap g : Nat} {ps : List (Int × Int × List Int)} (h : w.ownsRow g 136 66 (.slice (some ⟨r, 0, none⟩) n cap) ps.length (pcells ps)) (hs : ∀ q ∈ ps, q.2.2.length = 64) (k : Nat) (hk : k < ps.length) : w.rangeAt r (k * 66) (pcell (ps.getD k (0, 0, []))) := by
  have hc := h.cells (g := r) rfl
  have hat : ∀ (ps : List (Int × Int × List Int)), (∀ q ∈ ps, q.2.2.length = 64) → ∀ k, k < ps.length → ∀ j v, (pcell (ps.getD k (0, 0, [])))[j]? = some v → (pcells ps)[k * 66 + j]? = some v := by
    intro ps
    induction ps with
    | nil => intro _ k hk; simp at hk
    | cons q t ih =>
      intro hq k hk j v hv
      have hl : (pcell q).length = 66 := by simp [pcell, hq q (by simp)]
      show (pcell q ++ pcells t)[k * 66 + j]? = some v
      cases k with
      | zero =>
        have : j < (pcell q).length := by
          have := (List.getElem?_eq_some_iff.1 hv).1
          simpa [List.getD] using this
        rw [Nat.zero_mul, Nat.zero_add, List.getElem?_append_left this]
        simpa [List.getD] using hv
      | succ k =>
        rw [List.getElem?_append_right (by rw [hl]; omega), hl, show (k + 1) * 66 + j - 66 = k * 66 + j by omega]
        refine ih (fun r hr => hq r (by simp [hr])) k (by simpa using hk) j v ?_
        simpa [List.getD] using hv
  intro j v hv
  have := hc (k * 66 + j) v (hat ps hs k hk j v hv)
  rw [Addr.add_mid, Nat.zero_add] at this
  exact this
set_option maxHeartbeats 2000000 in
set_option maxRecDepth 20000 in
theorem crash_any {w : World} {g : Nat} {d : Dsk} {L : Loc} {N : Nat} (hd : DAt w g d L N) (k : Value) (bl : List Bool) (hc : Cel w k (bl.map .bool)) (hne : ∀ a n c, k = .slice (some a) n c → ¬ foot g L a.block) :
    Calls Try.prog 27 #[.pointer (some ⟨g, 0, none⟩), k] w fun e w' => e = .returned (.tuple #[]) ∧ Crashed w g (d.crash bl) L N w' := by
  have HPP : Hid (∀ L' w', DAt w' g (d.crash bl) L' N → Off (foot g L) w w' → (∀ j, foot g L' j → foot g L j ∨ w.heap.size ≤ j) → Crashed w g (d.crash bl) L N w') := fun L' w' a b c => ⟨L', a, b, c⟩
  generalize Crashed w g (d.crash bl) L N = PP at HPP ⊢
  obtain ⟨s0, hs0, hs1⟩ := hd.sure
  have hag := hd.ag
  have hz81 := zero136
  have c3 := row_at hd.row 3 L.p rfl
  have HKEEP : Hid (∀ wr, Off (· = L.a) w wr → Row wr g (dcells d L) 88 ∧ FMap wr L.f d.fails) := fun wr o => ⟨hd.row.off o hag.symm, hd.fails.off o (fun m e q => hd.fa (q ▸ e))⟩
  have hlk : ∃ (n : Nat), n = bl.length ∧ (k = .slice none 0 0 ∧ n = 0 ∨ ∃ a cap, k = .slice (some a) n cap ∧ a.block ≠ L.a ∧ ∀ j, j < n → w.cell? (a.add j) = some (.bool (bl.getD j false))) := by
    rcases hc with ⟨rfl, e⟩ | ⟨a, cap, rfl, hcell⟩
    · have : bl = [] := by simpa using e
      exact ⟨0, by rw [this]; rfl, Or.inl ⟨rfl, rfl⟩⟩
    · refine ⟨bl.length, rfl, Or.inr ⟨a, cap, by rw [List.length_map], fun q => hne a _ _ rfl (Or.inr (Or.inl q)), fun j hj => hcell j _ ?_⟩⟩
      rw [List.getElem?_map, List.getElem?_eq_getElem hj]
      simp [List.getD, hj]
  obtain ⟨nk, hnk, hk⟩ := hlk
  have HNK : Hid (nk = bl.length) := hnk
  clear hnk
  have HSTEP : Hid (∀ j, kept d.pend bl (j + 1) = if bl.getD j false = true then kept d.pend bl j ++ [d.pend.getD j (0, 0, [])] else kept d.pend bl j) := fun j => rfl
  have hpend := hd.pend
  rcases hpend.2 with ⟨hp, hn0⟩ | ⟨r, cap, cur, hp, _⟩
  · have e0 : d.pend = [] := List.eq_nil_of_length_eq_zero hn0
    obtain ⟨dk, HDK⟩ : ∃ dk : Dsk, Hid (dk = d) := ⟨d, rfl⟩
    have HC : Hid (∀ w', DAt w' g { (dk.forgot.plan [] 0) with down := false } = DAt w' g (d.crash bl)) := fun w' => by
      rw [HDK.out]; unfold Dsk.forgot Dsk.plan Dsk.crash; rw [e0]; rfl
    rw [hp] at c3
    have sk : ∃ s, SMap w L.a s dk.sure ∧ s ≤ N := ⟨s0, by rw [HDK.out]; exact hs0, by omega⟩
    have rk : Row w g (dcells dk L) 88 := by rw [HDK.out]; exact hd.row
    have fk : FMap w L.f dk.fails := by rw [HDK.out]; exact hd.fails
    have bd : 1 ≤ dk.n ∧ dk.n ≤ 2048 := by rw [HDK.out]; exact hd.small
    have bo : 0 ≤ dk.ops := by rw [HDK.out]; exact hd.opsn
    have bf : Wf dk.fuse := by rw [HDK.out]; exact hd.fusew
    have bdn : Hid (dk.down = d.down) := by show _ = _; rw [HDK.out]
    have O0 := Off.refl (· = L.a) w
    go_enter Try.func27, Try.ntmps27
    go_wp2
    go_loopw [13] (fun c wr => c = .int .i64 0 ∧ wr = w) (fun _ _ => 0)
    case atStart => exact ⟨rfl, rfl⟩
    case round =>
      obtain ⟨rfl, rfl⟩ := hrel
      go_wp2_with (first
          | (go_at_call 60; refine (forget_any (L := L) (d := dk) (N := N) rk sk fk hd.fa hd.big bd bo bf).mono ?_; rintro e w5 ⟨rfl, D5, O5⟩)
          | (go_at_call 24; refine (plan_any D5 (.slice none 0 0) [] (Or.inl ⟨rfl, rfl⟩) (fun a n c e => (by cases e)) (fun z hz => (by cases hz)) (by simp) 0 (wf_of (by omega) (by omega))).mono ?_; rintro e w6 ⟨rfl, m6, hm6, D6, O6⟩
             have c46 := row_at D6.row 4 (.bool dk.down) rfl
             have f46 := row_frozen D6.row 4
             have D7 := D6.setDown false))
      have hp := HPP.out _ _ (by rw [← HC.out]; exact D7) (crash_off O0 O5 O6) (crash_foot (hd.lt (k := L.b) (Or.inr (Or.inr (Or.inl rfl)))) (Nat.le_refl _) O5.size hm6)
      first
        | (go_end0; exact ⟨rfl, hp⟩)
        | (refine bodyPost_ret (results_none rfl _ _ _) rfl ?_; exact ⟨rfl, hp⟩)
  · obtain ⟨n, HN⟩ : ∃ n, Hid (d.pend.length = n) := ⟨_, rfl⟩
    rw [HN.out] at hp hs1 hpend
    rw [hp] at c3 hpend
    have HR : Hid (∀ wr, Off (· = L.a) w wr → ∀ j, j < n → wr.rangeAt r (j * 66) (pcell (d.pend.getD j (0, 0, [])))) := fun wr o j hj => by
      refine pend_range (g := g + 1) (n := n) (cap := cap) ?_ (fun q hq => (hd.okp q hq).2.2.2.2.1) j (by rw [HN.out]; exact hj)
      rw [HN.out]
      exact ownsRow_kept hpend fun k e hl => o.block k hl (fun q => hd.pa (by rw [hp, ← q]; exact e))
    have HQ : Hid (∀ j, j < n → ∃ q1 q2 s, d.pend.getD j (0, 0, []) = (q1, q2, s) ∧ Wf q1 ∧ Wf q2 ∧ Sec s) := fun j hj => by
      have hm : d.pend.getD j (0, 0, []) ∈ d.pend := by
        have : j < d.pend.length := by rw [HN.out]; exact hj
        simp only [List.getD]; rw [List.getElem?_eq_getElem this]; exact List.getElem_mem this
      have hok := hd.okp _ hm
      have := hd.small
      generalize d.pend.getD j (0, 0, []) = q at hok ⊢
      obtain ⟨q1, q2, s⟩ := q
      obtain ⟨h1, h2, h3, h4, h5⟩ := hok
      simp only at h1 h2 h3 h4 h5
      exact ⟨q1, q2, s, rfl, wf_of (by omega) (by omega), wf_of (by omega) (by omega), h5⟩
    have HEND : Hid (∀ wr, SMap wr L.a (s0 + n) (over d.sure (kept d.pend bl n)) → ∃ dk : Dsk, (∃ s, SMap wr L.a s dk.sure ∧ s ≤ N) ∧ dcells dk L = dcells d L ∧ dk.fails = d.fails ∧ (1 ≤ dk.n ∧ dk.n ≤ 2048) ∧ 0 ≤ dk.ops ∧ Wf dk.fuse ∧ dk.down = d.down ∧ ∀ w' L', DAt w' g { (dk.forgot.plan [] 0) with down := false } L' N → DAt w' g (d.crash bl) L' N) := fun wr hsm =>
      ⟨{ d with sure := over d.sure (kept d.pend bl n) }, ⟨s0 + n, hsm, by omega⟩, rfl, rfl, hd.small, hd.opsn, hd.fusew, rfl, fun w' L' h => by unfold Dsk.crash; rw [HN.out]; exact h⟩
    have O0 := Off.refl (· = L.a) w
    have hbL := hd.lt (k := L.b) (Or.inr (Or.inr (Or.inl rfl)))
    have hfa := hd.fa
    have hbig := hd.big
    have hgl := hd.row.lt
    have hb64 : s0 + n < 1000000000000 := by omega
    have hn64 : (n : Int) < 9223372036854775807 := by omega
    clear hpend hp hd hs1 HN hc hne
    rcases hk with ⟨rfl, rfl⟩ | ⟨a, kcap, rfl, hka, hkc⟩
    · go_enter Try.func27, Try.ntmps27
      go_wp2
      go_loopw [13] (fun c wr => ∃ j : Nat, c = .int .i64 j ∧ j ≤ n ∧ SMap wr L.a (s0 + j) (over d.sure (kept d.pend bl j)) ∧ Off (· = L.a) w wr) (fun c _ => n - (intOf c).toNat)
      case atStart => exact ⟨0, rfl, Nat.zero_le _, hs0, O0⟩
      case round =>
        clear O0 hs0
        obtain ⟨j, rfl, hj, Sk, Ok⟩ := hrel
        by_cases hjn : j < n
        · have hr := HR.out wr Ok j hjn
          obtain ⟨q1, q2, s, hq, wq1, wq2, hsec⟩ := HQ.out j hjn
          rw [hq] at hr
          have hst := HSTEP.out j
          rw [hq] at hst
          have hsl := hsec.1
          have hpl : Hid ((pcell (q1, q2, s)).length = 66) := pcell_length _ _ _ hsl
          have hj64 : (j : Int) < 9223372036854775807 := by omega
          have y0 : Row (wr.alloc (.cells (wcells 0 0 (zs 64)) 136)) wr.heap.size (wcells 0 0 (zs 64)) 136 := Row.new _ _ _
          have rY3 : Row ((wr.alloc (.cells (wcells 0 0 (zs 64)) 136)).setRow wr.heap.size (wcells q1 q2 s)) wr.heap.size (wcells q1 q2 s) 136 := y0.set _
          have hal := Sk.lt
          have O3 : Off (· = L.a) w ((wr.alloc (.cells (wcells 0 0 (zs 64)) 136)).setRow wr.heap.size (wcells q1 q2 s)) :=
            (Ok.trans (Off.of_below (F := fun _ => False) ((Below.refl _ _).alloc (Nat.le_refl _) _)) (fun _ h => h.elim)).trans (Off.of_setRow (F := (· = wr.heap.size)) _ _ _ rfl) (fun j hj => Or.inr (by have := Ok.size; omega))
          have S3 : SMap ((wr.alloc (.cells (wcells 0 0 (zs 64)) 136)).setRow wr.heap.size (wcells q1 q2 s)) L.a (s0 + j) (over d.sure (kept d.pend bl j)) := Sk.kept (by rw [setRow_other _ _ _ _ (by omega), Below.heap_alloc _ _ _ hal])
          obtain ⟨row3, _⟩ := HKEEP.out _ O3
          · have hbf : bl.getD j false = false := by
              simp only [List.getD]; rw [List.getElem?_eq_none (by have := HNK.out; omega)]; rfl
            rw [hbf, if_neg (by decide)] at hst
            have hj0 : ¬ (j : Int) < 0 := by omega
            go_wp2_with (first
              | (refine wpList_load_mid rfl 136 (.tmp 16) rfl r (j * 66) (by rfl) (pcell (q1, q2, s)) _ hr Try.underlying136 rfl (by rw [hpl.out]; exact size136) ?_)
              | (refine store_cells rfl 136 (.tmp 5) (.tmp 17) rfl wr.heap.size (wcells q1 q2 s) rfl rfl 136 _ y0 66 size136 (wcells_size _ _ _ (zs_length 64)) (wcells_size _ _ _ hsl) (wcells_one _ _ _) ?_))
            go_roundw
            case rel => exact ⟨j + 1, by go_num, by omega, by rw [hst]; exact (S3.mono (by omega)), O3⟩
            case measure => simp [intOf]; omega
        · have e : j = n := by omega
          subst e
          obtain ⟨row3, fl3⟩ := HKEEP.out _ Ok
          obtain ⟨dk, sk, ed, ef, bd, bo, bf, bdn, HC⟩ := HEND.out wr Sk
          have rk : Row wr g (dcells dk L) 88 := by rw [ed]; exact row3
          have fk : FMap wr L.f dk.fails := by rw [ef]; exact fl3
          have HC' := show Hid _ from HC
          clear HC ed ef
          go_wp2_with (first
            | (go_at_call 60; refine (forget_any (L := L) (d := dk) (N := N) rk sk fk hfa hbig bd bo bf).mono ?_; rintro e w5 ⟨rfl, D5, O5⟩)
            | (go_at_call 24; refine (plan_any D5 (.slice none 0 0) [] (Or.inl ⟨rfl, rfl⟩) (fun a n c e => (by cases e)) (fun z hz => (by cases hz)) (by simp) 0 (wf_of (by omega) (by omega))).mono ?_; rintro e w6 ⟨rfl, m6, hm6, D6, O6⟩
               have c46 := row_at D6.row 4 (.bool dk.down) rfl
               have f46 := row_frozen D6.row 4
               have D7 := D6.setDown false))
          have hp := HPP.out _ _ (HC'.out _ _ D7) (crash_off Ok O5 O6) (crash_foot hbL Ok.size O5.size hm6)
          first
            | (go_end0; exact ⟨rfl, hp⟩)
            | (refine bodyPost_ret (results_none rfl _ _ _) rfl ?_; exact ⟨rfl, hp⟩)
    · go_enter Try.func27, Try.ntmps27
      go_wp2
      go_loopw [13] (fun c wr => ∃ j : Nat, c = .int .i64 j ∧ j ≤ n ∧ SMap wr L.a (s0 + j) (over d.sure (kept d.pend bl j)) ∧ Off (· = L.a) w wr) (fun c _ => n - (intOf c).toNat)
      case atStart => exact ⟨0, rfl, Nat.zero_le _, hs0, O0⟩
      case round =>
        clear O0 hs0
        obtain ⟨j, rfl, hj, Sk, Ok⟩ := hrel
        by_cases hjn : j < n
        · have hr := HR.out wr Ok j hjn
          obtain ⟨q1, q2, s, hq, wq1, wq2, hsec⟩ := HQ.out j hjn
          rw [hq] at hr
          have hst := HSTEP.out j
          rw [hq] at hst
          have hsl := hsec.1
          have hpl : Hid ((pcell (q1, q2, s)).length = 66) := pcell_length _ _ _ hsl
          have hj64 : (j : Int) < 9223372036854775807 := by omega
          have y0 : Row (wr.alloc (.cells (wcells 0 0 (zs 64)) 136)) wr.heap.size (wcells 0 0 (zs 64)) 136 := Row.new _ _ _
          have rY3 : Row ((wr.alloc (.cells (wcells 0 0 (zs 64)) 136)).setRow wr.heap.size (wcells q1 q2 s)) wr.heap.size (wcells q1 q2 s) 136 := y0.set _
          have hal := Sk.lt
          have O3 : Off (· = L.a) w ((wr.alloc (.cells (wcells 0 0 (zs 64)) 136)).setRow wr.heap.size (wcells q1 q2 s)) :=
            (Ok.trans (Off.of_below (F := fun _ => False) ((Below.refl _ _).alloc (Nat.le_refl _) _)) (fun _ h => h.elim)).trans (Off.of_setRow (F := (· = wr.heap.size)) _ _ _ rfl) (fun j hj => Or.inr (by have := Ok.size; omega))
          have S3 : SMap ((wr.alloc (.cells (wcells 0 0 (zs 64)) 136)).setRow wr.heap.size (wcells q1 q2 s)) L.a (s0 + j) (over d.sure (kept d.pend bl j)) := Sk.kept (by rw [setRow_other _ _ _ _ (by omega), Below.heap_alloc _ _ _ hal])
          obtain ⟨row3, _⟩ := HKEEP.out _ O3
          by_cases hjk : j < nk
          · have hcel := cell_off (hkc j hjk) O3 (by rw [add_block]; exact hka)
            have hjk' : (j : Int) < (nk : Int) := by omega
            by_cases hb : bl.getD j false = true
            · rw [if_pos hb] at hst
              rw [hb] at hcel
              go_wp2_with (first
                | (refine wpList_load_mid rfl 136 (.tmp 16) rfl r (j * 66) (by rfl) (pcell (q1, q2, s)) _ hr Try.underlying136 rfl (by rw [hpl.out]; exact size136) ?_)
                | (refine store_cells rfl 136 (.tmp 5) (.tmp 17) rfl wr.heap.size (wcells q1 q2 s) rfl rfl 136 _ y0 66 size136 (wcells_size _ _ _ (zs_length 64)) (wcells_size _ _ _ hsl) (wcells_one _ _ _) ?_))
              generalize (wr.alloc (.cells (wcells 0 0 (zs 64)) 136)).setRow wr.heap.size (wcells q1 q2 s) = w3 at rY3 O3 S3 row3 hcel ⊢
              have hYL : wr.heap.size ≠ L.a := by omega
              generalize wr.heap.size = Y at rY3 hYL ⊢
              obtain ⟨w4, hrun4, m4, g4, z4⟩ := (show SMap w3.drew L.a (s0 + j) (over d.sure (kept d.pend bl j)) from S3).store (by unfold maxLen; omega) wq1 wq2 hsec
              have g4' : w3.grownBy w4 (some L.a) := ⟨g4.os, g4.tape, g4.output, g4.size, g4.block⟩
              have O4 : Off (· = L.a) w w4 := O3.trans (Off.of_grown (F := (· = L.a)) g4' (fun q hq => by cases hq; rfl)) (fun j hj => Or.inl hj)
              have row4 : Row w4 g (dcells d L) 88 := (HKEEP.out _ O4).1
              have y4 : Row w4 Y (wcells q1 q2 s) 136 := by
                have := rY3
                unfold Row at this ⊢
                rw [g4'.block Y rY3.lt (fun q => hYL (by cases q; rfl))]; exact this
              have m4' : SMap w4 L.a (s0 + (j + 1)) (over d.sure (kept d.pend bl (j + 1))) := by
                rw [hst, over_append]; exact m4
              clear z4 g4 m4 hst
              unfold pk at hrun4
              refine wp_region_held_drew (S := fun w' => Row w' g (dcells d L) 88 ∧ Row w' Y (wcells q1 q2 s) 136) (by kernel_rfl) ⟨row3, rY3⟩ fun hS => ?_
              refine tkI (i := 0) (v := .pointer (some ⟨g, 0, none⟩)) rfl (Or.inl ⟨by rfl, fun w _ => by rfl⟩) hS ?_
              try simp only [Act.put, nz]
              refine tkI (i := 1) (v := .pointer (some ⟨g, 0, none⟩)) rfl (Or.inl ⟨by rfl, fun w _ => by go_simp⟩) hS ?_
              try simp only [Act.put, nz]
              refine tkI (i := 2) (v := .pointer (some ⟨g, 1, none⟩)) rfl (Or.inl ⟨by rfl, fun w _ => by go_simp⟩) hS ?_
              try simp only [Act.put, nz]
              refine tkI (i := 3) (v := .map (some L.a)) rfl (Or.inl ⟨by rfl, fun w h => by have c := (row_at h.1 1 (.map (some L.a)) rfl); go_simp⟩) hS ?_
              try simp only [Act.put, nz]
              refine tkI (i := 4) (v := .pointer (some ⟨Y, 0, none⟩)) rfl (Or.inl ⟨by rfl, fun w _ => by go_simp⟩) hS ?_
              try simp only [Act.put, nz]
              refine tkI (i := 5) (v := .agg #[.int .i64 q1, .int .i64 q2]) rfl (yieldsIf_load_mid (by rfl) 90 (.tmp 32) rfl Y 0 rfl [.int .i64 q1, .int .i64 q2] _ (fun w h => range_key h.2) Try.underlying90 rfl size90) hS ?_
              try simp only [Act.put, nz]
              refine tkI (i := 6) (v := .pointer (some ⟨Y, 2, none⟩)) rfl (Or.inl ⟨by rfl, fun w _ => by go_simp⟩) hS ?_
              try simp only [Act.put, nz]
              refine tkI (i := 7) (v := .agg (bs s)) rfl (yieldsIf_load_mid (by rfl) 79 (.tmp 34) rfl Y 2 rfl (s.map (Value.int .u8)) _ (fun w h => range_sec h.2) Try.underlying79 rfl (by rw [List.length_map, hsl]; exact size79)) hS ?_
              try simp only [Act.put, nz]
              refine wpAnyH_ready (rs := [8]) (by kernel_rfl) (by simp) ?_
              refine AllReadyH.cons rfl (fun K hK => step_of rfl (wp_update 84 (.tmp 31) (.tmp 33) (.tmp 35) rfl _ _ _ rfl rfl rfl w4 hrun4 (hK.out _ _ ⟨row4, y4⟩ fun hS => ?_))) AllReadyH.nil
              try simp only [Act.put, nz]
              refine wpAnyH_done (by kernel_rfl) ?_ _
              go_wp2
              go_roundw
              case rel => exact ⟨j + 1, by go_num, by omega, m4', O4⟩
              case measure => simp [intOf]; omega
            · have hb' : bl.getD j false = false := by simpa using hb
              rw [if_neg hb] at hst
              rw [hb'] at hcel
              go_wp2_with (first
                | (refine wpList_load_mid rfl 136 (.tmp 16) rfl r (j * 66) (by rfl) (pcell (q1, q2, s)) _ hr Try.underlying136 rfl (by rw [hpl.out]; exact size136) ?_)
                | (refine store_cells rfl 136 (.tmp 5) (.tmp 17) rfl wr.heap.size (wcells q1 q2 s) rfl rfl 136 _ y0 66 size136 (wcells_size _ _ _ (zs_length 64)) (wcells_size _ _ _ hsl) (wcells_one _ _ _) ?_))
              go_roundw
              case rel => exact ⟨j + 1, by go_num, by omega, by rw [hst]; exact (S3.mono (by omega)), O3⟩
              case measure => simp [intOf]; omega
          · have hbf : bl.getD j false = false := by
              simp only [List.getD]; rw [List.getElem?_eq_none (by have := HNK.out; omega)]; rfl
            rw [hbf, if_neg (by decide)] at hst
            have hjk' : ¬ (j : Int) < (nk : Int) := by omega
            go_wp2_with (first
              | (refine wpList_load_mid rfl 136 (.tmp 16) rfl r (j * 66) (by rfl) (pcell (q1, q2, s)) _ hr Try.underlying136 rfl (by rw [hpl.out]; exact size136) ?_)
              | (refine store_cells rfl 136 (.tmp 5) (.tmp 17) rfl wr.heap.size (wcells q1 q2 s) rfl rfl 136 _ y0 66 size136 (wcells_size _ _ _ (zs_length 64)) (wcells_size _ _ _ hsl) (wcells_one _ _ _) ?_))
            go_roundw
            case rel => exact ⟨j + 1, by go_num, by omega, by rw [hst]; exact (S3.mono (by omega)), O3⟩
            case measure => simp [intOf]; omega
        · have e : j = n := by omega
          subst e
          obtain ⟨row3, fl3⟩ := HKEEP.out _ Ok
          obtain ⟨dk, sk, ed, ef, bd, bo, bf, bdn, HC⟩ := HEND.out wr Sk
          have rk : Row wr g (dcells dk L) 88 := by rw [ed]; exact row3
          have fk : FMap wr L.f dk.fails := by rw [ef]; exact fl3
          have HC' := show Hid _ from HC
          clear HC ed ef
          go_wp2_with (first
            | (go_at_call 60; refine (forget_any (L := L) (d := dk) (N := N) rk sk fk hfa hbig bd bo bf).mono ?_; rintro e w5 ⟨rfl, D5, O5⟩)
            | (go_at_call 24; refine (plan_any D5 (.slice none 0 0) [] (Or.inl ⟨rfl, rfl⟩) (fun a n c e => (by cases e)) (fun z hz => (by cases hz)) (by simp) 0 (wf_of (by omega) (by omega))).mono ?_; rintro e w6 ⟨rfl, m6, hm6, D6, O6⟩
               have c46 := row_at D6.row 4 (.bool dk.down) rfl
               have f46 := row_frozen D6.row 4
               have D7 := D6.setDown false))
          have hp := HPP.out _ _ (HC'.out _ _ D7) (crash_off Ok O5 O6) (crash_foot hbL Ok.size O5.size hm6)
          first
            | (go_end0; exact ⟨rfl, hp⟩)
            | (refine bodyPost_ret (results_none rfl _ _ _) rfl ?_; exact ⟨rfl, hp⟩)
end Go.Proofs.Ytehogiondcpbcaa
