/-
  Proved here: seal.Open of a block of 256 bytes answers the first stamp, the payload and true, if the four stamps are the same, else nought, noughts and false.
-/
import Derived.Test.YtcbjjofckhohjaaSSeal
namespace Go.Proofs.Ytcbjjofckhohjaa.Sl
open Go.ChangeShapes Go.WideShapes Go.ChangeAt Go.RowKit
set_option linter.unusedVariables false
set_option linter.unusedSimpArgs false
set_option maxRecDepth 20000

theorem cut_at (b : List Int) (hb : b.length = 256) (i : Int) (k : Nat) (hk : k < 4) (hi : i = k) (r : List Int) (hr : cut b k = r) (w : World) :
    Calls Try.prog 34 #[.agg (bs b), .int .i64 i] w fun e w' => e = .returned (.agg (bs r)) ∧ Below w.heap.size w w' := by
  subst hi; subst hr; exact cut_in b hb k hk w
theorem ret_mid {P : Program} {fn : Func} {p a c : Tmp} {ty : TypeId} (h : fn.results = #[.tmp a, .cell p ty, .tmp c]) (tmps : Array Value) (w : World) (g : Nat) (t : TypeId) (cs : Array Value) (n : Nat) (e : TypeId) (x y : Value)
    (ha : tmps.getD a undef = x) (hp : tmps.getD p undef = .pointer (some ⟨g, 0, none⟩)) (hc : tmps.getD c undef = y) (hg : Row w g cs t)
    (hu : P.underlying ty = some (.array n e)) (hi : (P.info? ty).map (·.size) = some n) (hn : cs.size = n) :
    (results fn tmps).run P w = .ok (.tuple #[x, .agg cs, y]) w := by
  have hp' : tmps[p]?.getD undef = .pointer (some ⟨g, 0, none⟩) := by simpa using hp
  have ha' : tmps[a]?.getD undef = x := by simpa using ha
  have hc' : tmps[c]?.getD undef = y := by simpa using hc
  simp [results, h, hp', ha', hc', asAddr, run_loadVar_row w g t ty cs (0, 0) _ hg hu rfl (by rw [hi, hn])]
theorem load_cells {P : Program} {w : World} {g : Nat} {cs : Array Value} {t : TypeId} (h : Row w g cs t) {n : Nat} (hn : cs.size = n) : (loadCellsFrom ⟨g, 0, none⟩ 0 n #[]).run P w = .ok cs w := by
  subst hn
  have := run_loadCells_list (P := P) w ⟨g, 0, none⟩ cs.toList (fun j v hv => by
    have hadd : (⟨g, 0, none⟩ : Addr).add j = ⟨g, j, none⟩ := by unfold Addr.add; split <;> simp_all
    rw [hadd, cell_of_row _ _ j cs t (0, 0) h]
    simpa using hv)
  simpa [loadCells] using this
theorem store_cells {P : Program} {w : World} {g : Nat} {cs : Array Value} {ys : List Int} {t : TypeId} (h : Row w g cs t) (hn : cs.size = (bs ys).size) : (storeCells ⟨g, 0, none⟩ (bs ys).toList 0).run P w = .ok () (w.setRow g (bs ys)) := by
  have := run_storeCells_from (P := P) g t (bs ys).toList 0 cs w h (by simp [hn]) (by intro v hv; have := bs_one ys; rw [Array.all_eq_true_iff_forall_mem] at this; exact this v (by simpa using hv))
  simpa using this
/-- The stamp of a block's sector. -/
def stampAt (b : List Int) (i : Nat) : Int := num (atOff (cut b i) 56) 8
/-- A payload of which the parts of k sectors are laid. -/
def payN (b : List Int) (k : Nat) : List Int := fl 224 fun j => if j < 56 * k then b.getD (64 * (j / 56) + j % 56) 0 else 0
theorem payN_length (b : List Int) (k : Nat) : (payN b k).length = 224 := fl_length _ _
theorem payN_zero (b : List Int) : payN b 0 = zs 224 := by
  symm; apply eq_fl _ _ _ (zs_length _)
  intro j hj; rw [if_neg (by omega)]; exact zs_at _ _
theorem cut_getD (b : List Int) (k j : Nat) (hj : j < 64) : (cut b k).getD j 0 = b.getD (64 * k + j) 0 := by
  simp only [cut, List.getD]
  rw [List.getElem?_take, if_pos hj, List.getElem?_drop]
theorem payN_step (b : List Int) (k : Nat) (hb : b.length = 256) (hk : k < 4) : splice (payN b k) (56 * k) (((cut b k).drop 0).take 56) = payN b (k + 1) := by
  have hl : (((cut b k).drop 0).take 56).length = 56 := by have := cut_length b k hb hk; simp; omega
  apply eq_fl
  · rw [length_splice _ _ _ (by rw [hl, payN_length]; omega), payN_length]
  · intro j hj
    unfold splice
    simp only [List.getD]
    have l1 : ((payN b k).take (56 * k)).length = 56 * k := by rw [List.length_take, payN_length]; omega
    by_cases h : j < 56 * k
    · rw [List.getElem?_append_left (by omega), List.getElem?_take, if_pos h, if_pos (by omega)]
      have := fl_at 224 (fun j => if j < 56 * k then b.getD (64 * (j / 56) + j % 56) 0 else 0) j hj
      simp only [List.getD, if_pos h] at this
      exact this
    · rw [List.getElem?_append_right (by omega), l1]
      by_cases h2 : j < 56 * (k + 1)
      · rw [List.getElem?_append_left (by omega), List.getElem?_take, if_pos (by omega), List.getElem?_drop, if_pos h2]
        have := cut_getD b k (j - 56 * k) (by omega)
        simp only [List.getD] at this
        have e1 : j / 56 = k := by omega
        have e2 : j - 56 * k = j % 56 := by omega
        rw [Nat.zero_add, this, e1, e2]
      · rw [List.getElem?_append_right (by omega), hl, List.getElem?_drop, if_neg h2]
        have := fl_at 224 (fun j => if j < 56 * k then b.getD (64 * (j / 56) + j % 56) 0 else 0) j hj
        simp only [List.getD, if_neg h] at this
        rw [show 56 * k + 56 + (j - 56 * k - 56) = j by omega]
        exact this
theorem cut_bytes (b : List Int) (k : Nat) (h : Bytes b) : Bytes (cut b k) := fun y hy => h y (List.mem_of_mem_drop (List.mem_of_mem_take hy))
theorem min56' (k : Nat) (hk : k < 4) : 56 = Nat.min 56 (224 - 56 * k) := by
  have h : k = 0 ∨ k = 1 ∨ k = 2 ∨ k = 3 := by omega
  rcases h with rfl | rfl | rfl | rfl <;> decide
theorem slice57' (g k : Nat) (hk : k < 4) (w : World) :
    (Instr.sliceAt 57 (.pointer (some ⟨g, 0, none⟩)) (some (.int .i64 (IntKind.i64.wrap ((k : Int) * 56)))) none none).run Try.prog w = .ok (.slice (some ⟨g, 56 * k, none⟩) (224 - 56 * k) (224 - 56 * k)) w := slice57 g k hk w

/-- What Open answers. -/
def opened (b : List Int) : Value :=
  if stampAt b 1 = stampAt b 0 ∧ stampAt b 2 = stampAt b 0 ∧ stampAt b 3 = stampAt b 0 then .tuple #[.int .u64 (stampAt b 0), .agg (bs (payN b 4)), .bool true] else .tuple #[.int .u64 0, .agg (bs (zs 224)), .bool false]

set_option maxHeartbeats 1000000 in
theorem open_any (b : List Int) (hb : b.length = 256) (hy : Bytes b) (w : World) :
    Calls Try.prog 28 #[.agg (bs b)] w fun e w' => e = .returned (opened b) ∧ Below w.heap.size w w' := by
  have hz := zero57
  have hz' := zero81
  have a0 : Row ((w.alloc (.cells (bs b) 29)).alloc (.cells (bs (zs 224)) 57)) w.heap.size (bs b) 29 := (Row.new _ _ _).alloc _
  have a1 : Row ((w.alloc (.cells (bs b) 29)).alloc (.cells (bs (zs 224)) 57)) (w.heap.size + 1) (bs (zs 224)) 57 := by have := Row.new (w.alloc (.cells (bs b) 29)) (bs (zs 224)) 57; simpa using this
  have ab : Below w.heap.size w ((w.alloc (.cells (bs b) 29)).alloc (.cells (bs (zs 224)) 57)) := ((Below.refl _ _).alloc (Nat.le_refl _) _).alloc (by simp) _
  have c0l := cut_length b 0 hb (by omega)
  have c0y := cut_bytes b 0 hy
  obtain ⟨C0, HC0⟩ : ∃ C, Hid (cut b 0 = C) := ⟨_, rfl⟩
  have HS0 : Hid (num (atOff C0 56) 8 = stampAt b 0) := by show _ = _; rw [← HC0.out]; rfl
  rw [HC0.out] at c0l c0y
  obtain ⟨S0, HT0⟩ : ∃ S, Hid (stampAt b 0 = S) := ⟨_, rfl⟩
  have HS0 : Hid (num (atOff C0 56) 8 = S0) := HS0.out.trans HT0.out
  go_enter Try.func28, Try.ntmps28
  go_wp2_with (first
    | (refine load_row rfl 29 (.tmp 1) rfl w.heap.size rfl 29 (bs b) a0 256 5 Try.underlying29 size29 (by rw [bs_size, hb]) ?_)
    | (go_at_call 34; refine (cut_at b hb _ 0 (by omega) rfl C0 HC0.out _).mono ?_; rintro e wc ⟨rfl, hcb⟩)
    | (go_at_call 42; refine (stamp_any C0 c0l c0y _).mono ?_; rw [HS0.out]; rintro e wd ⟨rfl, hdb⟩))
  have d0 : Row wd w.heap.size (bs b) 29 := (a0.below hcb a0.lt).below hdb (a0.below hcb a0.lt).lt
  have d1 : Row wd (w.heap.size + 1) (bs (zs 224)) 57 := (a1.below hcb a1.lt).below hdb (a1.below hcb a1.lt).lt
  have db : Below w.heap.size w wd := (ab.trans (hcb.mono (Nat.le_of_lt a0.lt))).trans (hdb.mono (Nat.le_of_lt (a0.below hcb a0.lt).lt))
  clear a0 a1 ab hcb hdb
  have f0 := d0.alloc (.cells (bs (zs 224)) 57)
  have f1 := d1.alloc (.cells (bs (zs 224)) 57)
  have f2 := Row.new wd (bs (zs 224)) 57
  have fb := db.alloc (Nat.le_of_lt d0.lt) (.cells (bs (zs 224)) 57)
  have l1 := d1.lt
  obtain ⟨gp, hgp⟩ : ∃ gp, gp = wd.heap.size := ⟨_, rfl⟩
  rw [← hgp] at f2 l1 ⊢
  clear d0 d1 db hgp wc
  generalize wd.alloc (.cells (bs (zs 224)) 57) = we at f0 f1 f2 fb ⊢
  go_loopw [12] (fun i wr => ∃ k : Nat, k ≤ 4 ∧ i = .int .i64 k ∧ Row wr w.heap.size (bs b) 29 ∧ Row wr (w.heap.size + 1) (bs (zs 224)) 57 ∧ Row wr gp (bs (payN b k)) 57 ∧ Below w.heap.size w wr ∧ ∀ j, j < k → stampAt b j = S0) (fun i _ => 4 - (intOf i).toNat)
  case atStart => exact ⟨0, by omega, rfl, f0, f1, by rw [payN_zero]; exact f2, fb, by intro j hj; omega⟩
  case round =>
    clear f0 f1 f2 fb
    obtain ⟨k, hk, rfl, q0, q1, q2, qb, qs⟩ := hrel
    have QS : Hid (∀ j, j < k → stampAt b j = S0) := qs
    clear qs
    by_cases hlt : k < 4
    · have hCl := cut_length b k hb hlt
      have hCy := cut_bytes b k hy
      obtain ⟨C, HC⟩ : ∃ C, Hid (cut b k = C) := ⟨_, rfl⟩
      obtain ⟨T, HT⟩ : ∃ T, Hid (stampAt b k = T) := ⟨_, rfl⟩
      have HST : Hid (num (atOff C 56) 8 = T) := by show _ = _; rw [← HT.out, ← HC.out]; rfl
      rw [HC.out] at hCl hCy
      have hpl := payN_length b k
      have hps := payN_step b k hb hlt
      have hpl' := payN_length b (k + 1)
      obtain ⟨Y, HY⟩ : ∃ Y, Hid (payN b k = Y) := ⟨_, rfl⟩
      obtain ⟨Z, HZ⟩ : ∃ Z, Hid (payN b (k + 1) = Z) := ⟨_, rfl⟩
      have HPS : Hid (splice Y (56 * k) ((C.drop 0).take 56) = Z) := by show _ = _; rw [← HY.out, ← HZ.out, ← HC.out]; exact hps
      rw [HY.out] at q2 hpl
      rw [HZ.out] at hpl'
      clear hps
      have l0 := q1.lt
      have l2 := q2.lt
      have hsl := slice57 gp k hlt
      by_cases hT : T = S0
      · go_wp2_with (first
          | (refine load_row rfl 29 (.tmp 1) rfl w.heap.size rfl 29 (bs b) q0 256 5 Try.underlying29 size29 (by rw [bs_size, hb]) ?_)
          | (go_at_call 34; refine (cut_at b hb _ k hlt rfl C HC.out _).mono ?_; rintro e wc ⟨rfl, hcb⟩)
          | (refine store_row rfl 81 (.tmp 8) (.tmp 17) rfl wc.heap.size C rfl rfl 81 _ (Row.new wc (bs (zs 64)) 81) 64 size81 (by rw [bs_size, zs_length]) hCl ?_)
          | (refine load_row rfl 81 (.tmp 8) rfl wc.heap.size rfl 81 (bs C) ((Row.new wc (bs (zs 64)) 81).set (bs C)) 64 5 Try.underlying81 size81 (by rw [bs_size, hCl]) ?_)
          | (go_at_call 42; refine (stamp_any C hCl hCy _).mono ?_; rw [HST.out]; rintro e wf ⟨rfl, hfb⟩))
        have x0 := ((q0.below hcb q0.lt).alloc (.cells (bs (zs 64)) 81)).other (show w.heap.size ≠ wc.heap.size from Nat.ne_of_lt (q0.below hcb q0.lt).lt) (bs C)
        have x1 := ((q1.below hcb q1.lt).alloc (.cells (bs (zs 64)) 81)).other (show w.heap.size + 1 ≠ wc.heap.size from Nat.ne_of_lt (q1.below hcb q1.lt).lt) (bs C)
        have x2 := ((q2.below hcb q2.lt).alloc (.cells (bs (zs 64)) 81)).other (show gp ≠ wc.heap.size from Nat.ne_of_lt (q2.below hcb q2.lt).lt) (bs C)
        have x3 := (Row.new wc (bs (zs 64)) 81).set (bs C)
        have xb : Below w.heap.size w ((wc.alloc (.cells (bs (zs 64)) 81)).setRow wc.heap.size (bs C)) :=
          below_setRow ((qb.trans (hcb.mono (by omega))).alloc (Nat.le_of_lt (q0.below hcb q0.lt).lt) _) (Nat.le_of_lt (q0.below hcb q0.lt).lt) _
        have y0 := x0.below hfb x0.lt
        have y1 := x1.below hfb x1.lt
        have y2 := x2.below hfb x2.lt
        have y3 := x3.below hfb x3.lt
        have yb := xb.trans (hfb.mono (Nat.le_of_lt x0.lt))
        have lc := (q2.below hcb q2.lt).lt
        clear x0 x1 x2 x3 xb q0 q1 q2 qb hcb hfb
        obtain ⟨gs, hgs⟩ : ∃ gs, gs = wc.heap.size := ⟨_, rfl⟩
        rw [← hgs] at y3 lc ⊢
        clear hgs
        go_region_law (refine step_copy rfl (.tmp 25) (.tmp 26) 58 58 rfl 5 Try.underlying58 size5 gp (56 * k) (224 - 56 * k) (224 - 56 * k) gs 0 56 64 rfl rfl Y C 57 81 y2 y3 56 (min56' k hlt) (by omega) (by omega) Z HPS.out ?_)
        all_goals
          have z0 : Row (wf.drew.setRow gp (bs Z)) w.heap.size (bs b) 29 := y0.other (by omega) _
          have z1 : Row (wf.drew.setRow gp (bs Z)) (w.heap.size + 1) (bs (zs 224)) 57 := y1.other (by omega) _
          have z2 : Row (wf.drew.setRow gp (bs Z)) gp (bs Z) 57 := y2.set _
          have zb : Below w.heap.size w (wf.drew.setRow gp (bs Z)) := below_setRow yb.drew (by omega) _
          go_wp2
          go_roundw
          all_goals first
            | exact ⟨k + 1, by omega, by go_num, z0, z1, by rw [HZ.out]; exact z2, zb, fun j hj => by
                by_cases e : j = k
                · subst e; rw [HT.out]; exact hT
                · exact QS.out j (by omega)⟩
            | (simp [intOf]; omega)
      · go_wp2_with (first
          | (refine load_row rfl 29 (.tmp 1) rfl w.heap.size rfl 29 (bs b) q0 256 5 Try.underlying29 size29 (by rw [bs_size, hb]) ?_)
          | (go_at_call 34; refine (cut_at b hb _ k hlt rfl C HC.out _).mono ?_; rintro e wc ⟨rfl, hcb⟩)
          | (refine store_row rfl 81 (.tmp 8) (.tmp 17) rfl wc.heap.size C rfl rfl 81 _ (Row.new wc (bs (zs 64)) 81) 64 size81 (by rw [bs_size, zs_length]) hCl ?_)
          | (refine load_row rfl 81 (.tmp 8) rfl wc.heap.size rfl 81 (bs C) ((Row.new wc (bs (zs 64)) 81).set (bs C)) 64 5 Try.underlying81 size81 (by rw [bs_size, hCl]) ?_)
          | (go_at_call 42; refine (stamp_any C hCl hCy _).mono ?_; rw [HST.out]; rintro e wf ⟨rfl, hfb⟩)
          | (refine build_none rfl 57 rfl (bs (zs 224)) built57 ?_)
          | (refine store_row rfl 57 (.tmp 3) (.tmp 22) rfl (w.heap.size + 1) (zs 224) rfl rfl 57 (bs (zs 224)) ((((q1.below hcb q1.lt).alloc (.cells (bs (zs 64)) 81)).other (Nat.ne_of_lt (q1.below hcb q1.lt).lt) (bs C)).below hfb (((q1.below hcb q1.lt).alloc (.cells (bs (zs 64)) 81)).other (Nat.ne_of_lt (q1.below hcb q1.lt).lt) (bs C)).lt) 224 size57 (by rw [bs_size, zs_length]) (zs_length _) ?_))
        have x1 := ((q1.below hcb q1.lt).alloc (.cells (bs (zs 64)) 81)).other (show w.heap.size + 1 ≠ wc.heap.size from Nat.ne_of_lt (q1.below hcb q1.lt).lt) (bs C)
        have xb : Below w.heap.size w ((wc.alloc (.cells (bs (zs 64)) 81)).setRow wc.heap.size (bs C)) :=
          below_setRow ((qb.trans (hcb.mono (by omega))).alloc (Nat.le_of_lt (q0.below hcb q0.lt).lt) _) (Nat.le_of_lt (q0.below hcb q0.lt).lt) _
        have y1 := x1.below hfb x1.lt
        have yb := xb.trans (hfb.mono (Nat.le_of_lt (Nat.lt_of_succ_lt x1.lt)))
        have ho : opened b = .tuple #[.int .u64 0, .agg (bs (zs 224)), .bool false] := by
          unfold opened
          rw [if_neg]
          rintro ⟨s1, s2, s3⟩
          have hk' : k = 0 ∨ k = 1 ∨ k = 2 ∨ k = 3 := by omega
          have := HT.out
          have := HT0.out
          rcases hk' with rfl | rfl | rfl | rfl
          · exact hT (by omega)
          · exact hT (by omega)
          · exact hT (by omega)
          · exact hT (by omega)
        refine bodyPost_ret (v := .tuple #[.int .u64 0, .agg (bs (zs 224)), .bool false]) ?_ rfl ⟨by rw [ho], below_setRow yb (by omega) _⟩
        exact ret_mid (fn := Try.f28) rfl _ _ (w.heap.size + 1) 57 (bs (zs 224)) 224 5 _ _ rfl rfl rfl (y1.set _) Try.underlying57 size57 (by rw [bs_size, zs_length])
    · have e4 : k = 4 := by omega
      subst e4
      have hl := payN_length b 4
      have ho : opened b = .tuple #[.int .u64 S0, .agg (bs (payN b 4)), .bool true] := by
        unfold opened
        have t0 := HT0.out
        have t1 := QS.out 1 (by omega)
        have t2 := QS.out 2 (by omega)
        have t3 := QS.out 3 (by omega)
        rw [if_pos ⟨by omega, by omega, by omega⟩, t0]
      obtain ⟨Y, HY⟩ : ∃ Y, Hid (payN b 4 = Y) := ⟨_, rfl⟩
      rw [HY.out] at q2 hl ho
      go_wp2
      refine wp_region_any (by kernel_rfl) ?_
      change wpAny _ _ _ _ _ _ _ (World.drew _)
      refine wpAny_take (i := 0) (v := .int .u64 S0) rfl (by kernel_rfl) (by kernel_rfl) (by kernel_rfl) (fun _ _ _ h => h) (Or.inl ⟨by rfl, fun w => by go_simp⟩) ?_
      refine wpAny_take (i := 2) (v := .int .u64 S0) rfl (by kernel_rfl) (by kernel_rfl) (by kernel_rfl) (fun _ _ _ h => h) (Or.inl ⟨by rfl, fun w => by go_simp⟩) ?_
      refine wpAny_ready (rs := [1]) (by kernel_rfl) (by simp) ?_
      refine AllReady.cons rfl (fun K hK => step_load rfl 57 (.tmp 6) rfl gp rfl 57 (bs Y) q2 224 5 Try.underlying57 size57 (by rw [bs_size, hl]) (hK _ _ ?_)) AllReady.nil
      refine wpAny_ready (rs := [3]) (by kernel_rfl) (by simp) ?_
      refine AllReady.cons rfl (fun K hK => step_store rfl 57 (.tmp 3) (.tmp 30) rfl (w.heap.size + 1) Y rfl rfl 57 (bs (zs 224)) q1 224 size57 (by rw [bs_size, zs_length]) hl (hK _ _ ?_)) AllReady.nil
      refine wpAny_take (i := 4) (v := .bool true) rfl (by kernel_rfl) (by kernel_rfl) (by kernel_rfl) (fun _ _ _ h => h) (Or.inl ⟨by rfl, fun w => by go_simp⟩) ?_
      refine wpAny_done (by kernel_rfl) ?_ _
      go_wp2
      refine bodyPost_ret (v := .tuple #[.int .u64 S0, .agg (bs Y), .bool true]) ?_ rfl ⟨by rw [ho], below_setRow qb.drew (by omega) _⟩
      exact ret_mid (fn := Try.f28) rfl _ _ (w.heap.size + 1) 57 (bs Y) 224 5 _ _ rfl rfl rfl (Row.set (w := wr.drew) q1 _) Try.underlying57 size57 (by rw [bs_size, hl])
end Go.Proofs.Ytcbjjofckhohjaa.Sl
