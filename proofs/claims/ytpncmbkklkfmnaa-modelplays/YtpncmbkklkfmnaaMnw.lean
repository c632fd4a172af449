/-
  Proved here: what New makes.
-/
import Derived.Test.YtpncmbkklkfmnaaMdo
namespace Go.Proofs.Ytpncmbkklkfmnaa
open Go.ChangeShapes Go.WideShapes Go.ChangeAt Go.RowKit
open Go.Deep Go.Maps
set_option linter.unusedVariables false
set_option linter.unusedSimpArgs false
set_option maxRecDepth 20000


theorem info59 : (Try.prog.info? 59).map (fun i => (i.zero, i.size, i.bytes)) = some (some (.slice none 0 0), 1, 24) := by kernel_rfl
theorem wpList_ver_one {ops : Array Oper} {rest : List Oper} {o : Oper} {a : Act} {w : World} {Q : Exit → Act → World → Prop} (hg : o.guard = none) (x : Operand) (ho : o.op = .buildSlice 59 1 #[(0, x)]) (va : Array Value) (hb : va.size = 65) (hx : a.eval x = .agg va)
    (h : wpList Try.prog ops Q rest (a.put o.dst (.slice (some ⟨w.heap.size, 0, none⟩) 1 1)) (w.alloc (.cells va 44))) : wpList Try.prog ops Q (o :: rest) a w :=
  wpList_plain hg fun _ hK => wp_ver_one x ho va hb hx (hK _ _ h)
theorem wpList_pg_one {ops : Array Oper} {rest : List Oper} {o : Oper} {a : Act} {w : World} {Q : Exit → Act → World → Prop} (hg : o.guard = none) (x : Operand) (ho : o.op = .buildSlice 56 1 #[(0, x)]) (b n c : Nat) (hx : a.eval x = .slice (some ⟨b, 0, none⟩) n c)
    (h : wpList Try.prog ops Q rest (a.put o.dst (.slice (some ⟨w.heap.size, 0, none⟩) 1 1)) (w.alloc (.cells #[.slice (some ⟨b, 0, none⟩) n c] 59))) : wpList Try.prog ops Q (o :: rest) a w := by
  obtain ⟨i, hi, hz, hs, _⟩ := info_parts info59
  refine wpList_buildSlice hg 56 59 1 _ ho #[.slice (some ⟨b, 0, none⟩) n c] i _ Try.underlying56 hi hz (by rw [hs]; decide) (by rw [hs]; decide) ?_ h
  have e1 : (#[(0, x)].map fun (i, x) => (i, a.eval x)).toList = [(0, .slice (some ⟨b, 0, none⟩) n c)] := by simp [hx]
  rw [e1, fill_step _ _ 0 (.slice (some ⟨b, 0, none⟩) n c) _ 0 1 (by simp [hs]) rfl (by simp [hs])]
  unfold Instr.fill
  congr 1
  show (⟨splice _ 0 [.slice (some ⟨b, 0, none⟩) n c]⟩ : Array Value) = _
  unfold splice
  rw [List.take_zero, List.nil_append, List.length_singleton, List.drop_of_length_le (by simp [hs]), List.append_nil]
theorem ownsRow_base {w : World} {b b' : Nat} {e : TypeId} {size : Nat} {v : Value} {n : Nat} {xs : List Value} (h : w.ownsRow b e size v n xs) (hb : b' ≤ b) : w.ownsRow b' e size v n xs := by
  obtain ⟨h1, h2⟩ := h
  refine ⟨h1, ?_⟩
  rcases h2 with h2 | ⟨g, cap, cur, rfl, hb', rest⟩
  · exact Or.inl h2
  · exact Or.inr ⟨g, cap, cur, rfl, Nat.le_trans hb hb', rest⟩
theorem alloc_own {w : World} {cs : Array Value} {e : TypeId} {size n : Nat} (base : Nat) (hb : base ≤ w.heap.size) (hn : n ≤ maxLen) (hs : cs.size = n * size) : (w.alloc (.cells cs e)).ownsRow base e size (.slice (some ⟨w.heap.size, 0, none⟩) n n) n cs.toList :=
  ⟨by rw [Array.length_toList]; exact hs, Or.inr ⟨w.heap.size, n, cs, rfl, hb, heap_alloc_last w _, Nat.le_refl _, hn, hs, List.take_of_length_le (by rw [Array.length_toList, hs]; exact Nat.le_refl _)⟩⟩
/-- A machine that is being made: so many pages stand. -/
def Made (w : World) (g lm : Nat) (mx : Int) (j : Nat) (wr : World) : Prop := ∃ (v : Value) (ps : List Pg), ps.length = j ∧ (∀ p ∈ ps, p.vs = [Ver.zero]) ∧ Row wr g #[v, .int .u32 mx, .int .u32 0, .int .u64 0, .map (some lm), .bool false] 58 ∧ wr.ownsRow w.heap.size 59 1 v j (ps.map Pg.val) ∧
  (∀ p ∈ ps, wr.ownsRow w.heap.size 44 65 p.val p.vs.length (flatV p.vs)) ∧ (ps.map Pg.b).Nodup ∧ wr.ownsMap Try.prog 32 txR lm 0 (txD []) ∧ Below w.heap.size w wr ∧ w.heap.size ≤ g ∧ w.heap.size ≤ lm
def newS (n : Nat) (mx : Int) : St := ⟨List.replicate n [Ver.zero], mx, 0, 0, [], false⟩
theorem newS_ok {n : Nat} (h1 : 1 ≤ n) (h2 : n ≤ 16) {mx : Int} (h3 : 0 ≤ mx) (h4 : mx ≤ 4294967295) : (newS n mx).Ok := by
  refine { n0 := ?_, n1 := ?_, vs := ?_, lo := Int.le_refl _, hi := h3, mx := h4, pos := Int.le_refl _, keys := List.Pairwise.nil, few := Nat.zero_le _, tx := (fun t ht => nomatch ht) }
  · simp [newS]; exact h1
  · simp [newS]; exact h2
  · intro p hp
    rw [List.eq_of_mem_replicate hp]
    refine ⟨fun v hv => ?_, ⟨Ver.zero, [], rfl, rfl⟩, List.pairwise_singleton _ _, ?_⟩
    · simp at hv
      subst hv
      exact ⟨Ver.zero_ok, Int.le_refl _⟩
    · show ((1 : Nat) : Int) ≤ 0 + 1
      omega
/-- What New leaves. -/
def NewM (w : World) (n : Nat) (mx : Int) (e : Ending) (w' : World) : Prop := ∃ g, e = .returned (.pointer (some ⟨g, 0, none⟩)) ∧ Below w.heap.size w w' ∧ MAt w' (fun k => w.heap.size ≤ k ∧ k < w'.heap.size) g (newS n mx)
theorem Made.done {w wr : World} {g lm n : Nat} {mx : Int} (h : Made w g lm mx n wr) (h1 : 1 ≤ n) (h2 : n ≤ 16) (h3 : 0 ≤ mx) (h4 : mx ≤ 4294967295) : NewM w n mx (.returned (.pointer (some ⟨g, 0, none⟩))) wr := by
  obtain ⟨v, ps, hl, hv, row, prow, pown, pne, lown, hb, hg, hlm⟩ := h
  have f := prow
  obtain ⟨pb, pcap, rfl, hpb, hplt⟩ := World.ownsRow.form prow (by omega)
  refine ⟨g, rfl, hb, ⟨pb, pcap, lm, ps, mx, 0, 0, [], false⟩, ?_, { at_ := { row := ?_, prow := ?_, pown := ?_, pne := pne, lown := lown, wown := (fun t ht => nomatch ht), mne := List.nodup_nil, lne := (fun t ht => nomatch ht) }, ok := ?_, foot := ?_, lt := fun k hk => hk.2 }⟩
  · simp only [M.abs, newS, List.map_nil]
    congr 1
    rw [List.eq_replicate_iff]
    refine ⟨by rw [List.length_map, hl], fun b hb => ?_⟩
    obtain ⟨p, hp, rfl⟩ := List.mem_map.1 hb
    exact hv p hp
  · simp only [M.cells, hl]
    exact row
  · simp only [hl]
    exact ownsRow_base prow (Nat.zero_le _)
  · intro p hp
    exact ownsRow_base (pown p hp) (Nat.zero_le _)
  · have := newS_ok h1 h2 h3 h4
    have e : M.abs ⟨pb, pcap, lm, ps, mx, 0, 0, [], false⟩ = newS n mx := by
      simp only [M.abs, newS, List.map_nil]
      congr 1
      rw [List.eq_replicate_iff]
      refine ⟨by rw [List.length_map, hl], fun b hb => ?_⟩
      obtain ⟨p, hp, rfl⟩ := List.mem_map.1 hb
      exact hv p hp
    rw [e]; exact this
  · intro k hk
    rcases hk with rfl | rfl | rfl | ⟨p, hp, rfl⟩ | ⟨t, ht, _⟩
    · exact ⟨hg, row.lt⟩
    · exact ⟨hpb, hplt⟩
    · exact ⟨hlm, lown.lt⟩
    · have := World.ownsRow.lt (pown p hp) p.b rfl
      exact this
    · exact nomatch ht
theorem Made.row {w wr : World} {g lm n : Nat} {mx : Int} (h : Made w g lm mx n wr) : ∃ v, wr.cell? ⟨g, 0, none⟩ = some v ∧ wr.frozen? ⟨g, 0, none⟩ = false ∧ ∃ ps : List Pg, ps.length = n ∧ (∀ p ∈ ps, p.vs = [Ver.zero]) ∧ Row wr g #[v, .int .u32 mx, .int .u32 0, .int .u64 0, .map (some lm), .bool false] 58 ∧ wr.ownsRow w.heap.size 59 1 v n (ps.map Pg.val) ∧
  (∀ p ∈ ps, wr.ownsRow w.heap.size 44 65 p.val p.vs.length (flatV p.vs)) ∧ (ps.map Pg.b).Nodup ∧ wr.ownsMap Try.prog 32 txR lm 0 (txD []) ∧ Below w.heap.size w wr ∧ w.heap.size ≤ g ∧ w.heap.size ≤ lm := by
  obtain ⟨v, ps, hl, hv, row, rest⟩ := h
  exact ⟨v, row_at row 0 _ rfl, row_frozen row 0, ps, hl, hv, row, rest⟩
/-- One page more. -/
theorem made_step {w wr w3 : World} {g lm n : Nat} {mx : Int} {v : Value} {ps : List Pg} (hl : ps.length = n) (hv : ∀ p ∈ ps, p.vs = [Ver.zero]) (row : Row wr g #[v, .int .u32 mx, .int .u32 0, .int .u64 0, .map (some lm), .bool false] 58) (prow : wr.ownsRow w.heap.size 59 1 v n (ps.map Pg.val))
    (pown : ∀ p ∈ ps, wr.ownsRow w.heap.size 44 65 p.val p.vs.length (flatV p.vs)) (pne : (ps.map Pg.b).Nodup) (lown : wr.ownsMap Try.prog 32 txR lm 0 (txD [])) (hb : Below w.heap.size w wr) (hg : w.heap.size ≤ g) (hlm : w.heap.size ≤ lm)
    (w2 : World) (e2 : w2 = (wr.alloc (.cells Ver.zero.arr 44)).alloc (.cells #[.slice (some ⟨wr.heap.size, 0, none⟩) 1 1] 59)) {v' : Value} (own3 : w3.ownsRow w.heap.size 59 1 v' (n + 1) (ps.map Pg.val ++ [.slice (some ⟨wr.heap.size, 0, none⟩) 1 1])) (gr : w2.grownBy w3 v.ownBlock) (hv' : ∀ k, v'.ownBlock = some k → v.ownBlock = some k ∨ k = w2.heap.size) :
    Made w g lm mx (n + 1) (w3.setCell ⟨g, 0, none⟩ v') := by
  have a1 : Below wr.heap.size wr (wr.alloc (.cells Ver.zero.arr 44)) := (Below.refl _ _).alloc (Nat.le_refl _) _
  have a2 : Below wr.heap.size wr w2 := by rw [e2]; exact a1.alloc a1.size _
  have s2 : w2.heap.size = wr.heap.size + 2 := by rw [e2]; exact (Array.size_push ..).trans (congrArg (· + 1) (Array.size_push ..))
  have rg2 : Row w2 g #[v, .int .u32 mx, .int .u32 0, .int .u64 0, .map (some lm), .bool false] 58 := row.below a2 row.lt
  have nv : ∀ k, v.ownBlock = some k → isCells wr k 59 := fun k hk => by
    rcases prow.2 with ⟨e, _⟩ | ⟨g', cap', cur, e, _, hc, _⟩
    · rw [e] at hk; cases hk
    · rw [e] at hk; cases hk; exact ⟨cur, hc⟩
  have ngv : ∀ k, v.ownBlock = some k → k ≠ g := fun k hk => ne_types (nv k hk) (row_is row) (by decide)
  have O3 : Off (fun k => v.ownBlock = some k) w2 w3 := Off.of_grown gr (fun k hk => hk)
  have O4 : Off (· = g) w3 (w3.setCell ⟨g, 0, none⟩ v') := Off.of_setCell _ _ _ rfl
  have hglt := row.lt
  have rg3 : Row w3 g #[v, .int .u32 mx, .int .u32 0, .int .u64 0, .map (some lm), .bool false] 58 := rg2.off O3 (fun q => ngv g q rfl)
  have onew : w2.ownsRow w.heap.size 44 65 (.slice (some ⟨wr.heap.size, 0, none⟩) 1 1) 1 Ver.zero.arr.toList := by
    rw [e2]
    exact ownsRow_off (F := fun _ => False) (alloc_own w.heap.size hb.size (by unfold maxLen; omega) vz) (Off.of_below ((Below.refl _ _).alloc (Nat.le_refl _) _)) (fun _ _ q => q)
  have k44 : ∀ {W : World} {k : Nat}, isCells W k 44 → v.ownBlock = some k → isCells W k 59 → False := fun h _ h2 => ne_types h h2 (by decide) rfl
  have toO : ∀ p : Pg, wr.ownsRow w.heap.size 44 65 p.val p.vs.length (flatV p.vs) → (w3.setCell ⟨g, 0, none⟩ v').ownsRow w.heap.size 44 65 p.val p.vs.length (flatV p.vs) := fun p h => by
    have k := own_is h
    have h2 := ownsRow_off (F := fun _ => False) h (Off.of_below a2) (fun _ _ q => q)
    have h3 := ownsRow_off h2 O3 (fun j e q => by cases e; exact ne_types k (nv _ q) (by decide) rfl)
    exact ownsRow_off h3 O4 (fun j e q => by cases e; exact ne_types k (row_is row) (by decide) q)
  refine ⟨v', ps ++ [⟨wr.heap.size, 1, [Ver.zero]⟩], by simp [hl], ?_, row_set rg3 0 v', ?_, ?_, ?_, ?_, ?_, hg, hlm⟩
  · intro p hp
    rcases List.mem_append.1 hp with q | q
    · exact hv p q
    · simp at q; subst q; rfl
  · have e : (ps ++ [(⟨wr.heap.size, 1, [Ver.zero]⟩ : Pg)]).map Pg.val = ps.map Pg.val ++ [.slice (some ⟨wr.heap.size, 0, none⟩) 1 1] := by simp [Pg.val]
    rw [e]
    refine ownsRow_off own3 O4 (fun j hj q => ?_)
    subst q
    rcases hv' _ hj with q | q
    · exact ngv _ q rfl
    · omega
  · intro p hp
    rcases List.mem_append.1 hp with q | q
    · exact toO p (pown p q)
    · simp at q
      subst q
      have e : flatV [Ver.zero] = Ver.zero.arr.toList := by simp [flatV, Ver.arr]
      show (w3.setCell ⟨g, 0, none⟩ v').ownsRow w.heap.size 44 65 (.slice (some ⟨wr.heap.size, 0, none⟩) 1 1) 1 (flatV [Ver.zero])
      rw [e]
      have h3 := ownsRow_off onew O3 (fun j e q => by cases e; have := (World.ownsRow.lt prow _ q).2; simp at this)
      exact ownsRow_off h3 O4 (fun j e q => by cases e; have q' : wr.heap.size = g := q; omega)
  · rw [List.map_append]
    refine List.nodup_append.2 ⟨pne, by simp, fun a ha b hb' e => ?_⟩
    simp at hb'
    subst hb'
    obtain ⟨p, hp, e2⟩ := List.mem_map.1 ha
    have := (World.ownsRow.lt (pown p hp) p.b rfl).2
    omega
  · have l2 := ownsMap_off (F := fun _ => False) lown (Off.of_below a2) (fun q => q)
    have l3 := ownsMap_off l2 O3 (fun q => ne_map (nv _ q) (map_is lown) rfl)
    exact ownsMap_off l3 O4 (fun q => ne_map (row_is row) (map_is lown) q.symm)
  · have b2 := hb.trans (a2.mono hb.size)
    have b3 : Below w.heap.size w w3 := b2.trans (O3.below b2.size (fun k hk => (World.ownsRow.lt prow k hk).1))
    exact b3.trans (O4.below b3.size (fun k hk => by rw [hk]; exact hg))
theorem new_none (n : Int) (h0 : -9223372036854775808 ≤ n) (h1 : n ≤ 9223372036854775807) (hn : n < 1 ∨ 16 < n) (mx : Int) (w : World) : Calls Try.prog 9 #[.int .i64 n, .int .u32 mx] w fun r w' => r = .returned (.pointer none) ∧ w' = w := by
  by_cases h : n < 1
  · go_enter Try.func9, Try.ntmps9
    go_wp2
    go_ret
    exact ⟨rfl, rfl⟩
  · have h2 : n > 16 := by omega
    go_enter Try.func9, Try.ntmps9
    go_wp2
    go_ret
    exact ⟨rfl, rfl⟩
theorem built58 (mx : Int) (lm : Nat) : Try.prog.built 58 [(1, .int .u32 mx), (4, .map (some lm))] = some #[.slice none 0 0, .int .u32 mx, .int .u32 0, .int .u64 0, .map (some lm), .bool false] := by kernel_rfl
set_option maxHeartbeats 2000000 in
theorem new_some (n : Nat) (h1 : 1 ≤ n) (h2 : n ≤ 16) (mx : Int) (h3 : 0 ≤ mx) (h4 : mx ≤ 4294967295) (w : World) : Calls Try.prog 9 #[.int .i64 n, .int .u32 mx] w fun e w' => NewM w n mx e w' := by
  have hn1 : ¬ (n : Int) < 1 := by omega
  have hn2 : ¬ (n : Int) > 16 := by omega
  have bu := built58 mx w.heap.size
  have own0 := World.ownsMap_made (H := TxH) w Try.prog 32 txR
  obtain ⟨PP, HPP⟩ : ∃ PP : Ending → World → Prop, Hid (PP = fun e w' => NewM w n mx e w') := ⟨_, rfl⟩
  rw [← HPP.out]
  have bz := built44_none
  have HVS : Hid (Ver.zero.arr.size = 65) := vz
  obtain ⟨VZ, HVZ⟩ : ∃ VZ, Hid (Ver.zero.arr = VZ) := ⟨_, rfl⟩
  rw [HVZ.out] at bz HVS
  have ab0 : Below w.heap.size w (w.alloc (.map #[] 0)) := (Below.refl _ _).alloc (Nat.le_refl _) _
  have s0 : (w.alloc (.map #[] 0)).heap.size = w.heap.size + 1 := Array.size_push ..
  have HM0 : Hid (Made w (w.heap.size + 1) w.heap.size mx 0 ((w.alloc (.map #[] 0)).alloc (.cells #[.slice none 0 0, .int .u32 mx, .int .u32 0, .int .u64 0, .map (some w.heap.size), .bool false] 58))) := by
    refine ⟨.slice none 0 0, [], rfl, (fun p hp => nomatch hp), ?_, ⟨rfl, Or.inl ⟨rfl, rfl⟩⟩, (fun p hp => nomatch hp), List.nodup_nil, ?_, ab0.alloc ab0.size _, Nat.le_succ _, Nat.le_refl _⟩
    · have := Row.new (w.alloc (.map #[] 0)) #[.slice none 0 0, .int .u32 mx, .int .u32 0, .int .u64 0, .map (some w.heap.size), .bool false] 58
      rw [s0] at this
      exact this
    · exact own0.alloc _
  clear own0 ab0 s0 bu
  have hmm := @run_makeMap Try.prog
  go_enter Try.func9, Try.ntmps9
  go_upto_region 5 with fail
  clear hmm
  generalize (w.alloc (.map #[] 0)).alloc (.cells #[.slice none 0 0, .int .u32 mx, .int .u32 0, .int .u64 0, .map (some w.heap.size), .bool false] 58) = W at HM0 ⊢
  obtain ⟨g, HG⟩ : ∃ g, Hid (w.heap.size + 1 = g) := ⟨_, rfl⟩
  obtain ⟨lm, HLM⟩ : ∃ lm, Hid (w.heap.size = lm) := ⟨_, rfl⟩
  have HM1 : Hid (Made w g lm mx 0 W) := by rw [← HG.out, ← HLM.out]; exact HM0.out
  try rw [HG.out]
  clear HM0
  go_loopw [17] (fun i wr => ∃ j : Nat, i = .int .i64 j ∧ j ≤ n ∧ Hid (Made w g lm mx j wr)) (fun i _ => n - (intOf i).toNat)
  case atStart => exact ⟨0, rfl, Nat.zero_le _, HM1⟩
  case round =>
    clear HM1
    obtain ⟨j, rfl, hj, HM⟩ := hrel
    by_cases hlt : (j : Int) < n
    · obtain ⟨v, c0, f0, ps, hl, hv, row, prow, pown, pne, lown, hb, hg, hlm⟩ := HM.out.row
      have a1 : Below wr.heap.size wr (wr.alloc (.cells Ver.zero.arr 44)) := (Below.refl _ _).alloc (Nat.le_refl _) _
      have HA : Hid (∃ w2, w2 = (wr.alloc (.cells Ver.zero.arr 44)).alloc (.cells #[.slice (some ⟨wr.heap.size, 0, none⟩) 1 1] 59)) := ⟨_, rfl⟩
      obtain ⟨i59, hi59, hz59, hs59, hb59⟩ := info_parts info59
      have s1 : (wr.alloc (.cells VZ 44)).heap.size = wr.heap.size + 1 := Array.size_push ..
      have a2 : Below wr.heap.size wr ((wr.alloc (.cells VZ 44)).alloc (.cells #[.slice (some ⟨wr.heap.size, 0, none⟩) 1 1] 59)) := ((Below.refl _ _).alloc (Nat.le_refl _) _).alloc (by rw [s1]; exact Nat.le_succ _) _
      have prow2 := ownsRow_off (F := fun _ => False) prow (Off.of_below a2) (fun _ _ q => q)
      have HNW : Hid (∀ jj u, [Value.slice (some ⟨wr.heap.size, 0, none⟩) 1 1][jj]? = some u → ((wr.alloc (.cells VZ 44)).alloc (.cells #[.slice (some ⟨wr.heap.size, 0, none⟩) 1 1] 59)).cell? ((⟨wr.heap.size + 1, 0, none⟩ : Addr).add jj) = some u) := fun jj u hu => World.news_of_block (by have := Row.new (wr.alloc (.cells VZ 44)) #[.slice (some ⟨wr.heap.size, 0, none⟩) 1 1] 59; rw [s1] at this; exact this) jj u hu
      have HMS : Hid (∀ (w2 : World), w2 = (wr.alloc (.cells VZ 44)).alloc (.cells #[.slice (some ⟨wr.heap.size, 0, none⟩) 1 1] 59) → ∀ (w3 : World) (v' : Value), w3.ownsRow w.heap.size 59 1 v' (j + 1) (ps.map Pg.val ++ [.slice (some ⟨wr.heap.size, 0, none⟩) 1 1]) → w2.grownBy w3 v.ownBlock → (∀ k, v'.ownBlock = some k → v.ownBlock = some k ∨ k = w2.heap.size) → Made w g lm mx (j + 1) (w3.setCell ⟨g, 0, none⟩ v') ∧ w3.cell? ⟨g, 0, none⟩ = some v ∧ w3.frozen? ⟨g, 0, none⟩ = false) := fun w2 e2 w3 v' h3 h4 h5 => by
        refine ⟨made_step hl hv row prow pown pne lown hb hg hlm w2 (by rw [HVZ.out]; exact e2) h3 h4 h5, ?_, ?_⟩
        · have r2 : Row w2 g #[v, .int .u32 mx, .int .u32 0, .int .u64 0, .map (some lm), .bool false] 58 := by rw [e2]; exact row.below a2 row.lt
          have r3 := r2.off (Off.of_grown (F := fun k => v.ownBlock = some k) h4 (fun k hk => hk)) (fun q => by
            rcases prow.2 with ⟨e, _⟩ | ⟨g', cap', cur, e, _, hc, _⟩
            · rw [e] at q; cases q
            · rw [e] at q; cases q
              exact ne_types (w := wr) ⟨cur, hc⟩ (row_is row) (by decide) rfl)
          exact row_at r3 0 _ rfl
        · have r2 : Row w2 g #[v, .int .u32 mx, .int .u32 0, .int .u64 0, .map (some lm), .bool false] 58 := by rw [e2]; exact row.below a2 row.lt
          have r3 := r2.off (Off.of_grown (F := fun k => v.ownBlock = some k) h4 (fun k hk => hk)) (fun q => by
            rcases prow.2 with ⟨e, _⟩ | ⟨g', cap', cur, e, _, hc, _⟩
            · rw [e] at q; cases q
            · rw [e] at q; cases q
              exact ne_types (w := wr) ⟨cur, hc⟩ (row_is row) (by decide) rfl)
          exact row_frozen r3 0
      have hbs : w.heap.size ≤ ((wr.alloc (.cells VZ 44)).alloc (.cells #[.slice (some ⟨wr.heap.size, 0, none⟩) 1 1] 59)).heap.size := Nat.le_trans hb.size a2.size
      have hw1 : IntKind.i64.wrap ((j : Int) + 1) = ((j + 1 : Nat) : Int) := by rw [IntKind.wrap_i64]; omega
      have hj1 : j + 1 ≤ n := by omega
      clear HM HA a1 hl hv row pown pne lown hb hg hlm prow a2
      have tb : Hid (1 = 1) := rfl
      have t1 : Hid (1 = 1) := rfl
      have t2 : Hid (1 = 1) := rfl
      have t3 : Hid (1 = 1) := rfl
      go_wp2_with (first
        | (have hh := tb; clear hh tb; refine build_cells rfl 44 #[] rfl _ rfl VZ bz ?_)
        | (have hh := t1; clear hh t1; refine wpList_ver_one rfl (.tmp 24) rfl VZ HVS.out rfl ?_)
        | (have hh := t2; clear hh t2; refine wpList_pg_one rfl (.tmp 25) rfl wr.heap.size 1 1 rfl ?_; rw [s1])
        | (have hh := t3; clear hh t3; refine wpList_append_lies _ rfl _ _ 56 rfl w.heap.size 59 i59 (.slice none 0 0) 1 24 Try.underlying56 hi59 hz59 hs59 hb59 rfl (by omega) v j _ rfl prow2 ⟨wr.heap.size + 1, 0, none⟩ 1 1 [.slice (some ⟨wr.heap.size, 0, none⟩) 1 1] rfl rfl HNW.out (fun u hu => by simp at hu; subst hu; rfl) (by omega) (by unfold maxLen; omega) (by omega) hbs _ rfl ?_; intro gb cap w3 hown3 hg3 hat3 hlt3; obtain ⟨HN3, c3, f3⟩ := HMS.out _ rfl w3 _ hown3 hg3 (fun k hk => by cases hk; exact hat3); have HN3' : Hid _ := HN3; clear HN3 hown3 hg3 hat3 prow2))
      go_roundw
      case rel => exact ⟨j + 1, by first | rfl | simp, hj1, HN3'⟩
      case measure => simp only [intOf]; omega
    · have HJN : Hid (j = n) := by show _ = _; omega
      go_wp2
      rw [HPP.out]
      have HM2 := HM.out
      rw [HJN.out] at HM2
      exact Made.done HM2 h1 h2 h3 h4
end Go.Proofs.Ytpncmbkklkfmnaa
