/-
  Proved here: cache.load: a page brought into a frame.
-/
import Derived.Test.YtehogiondcpbcaaJq27
import Derived.Laws.AppendOwnNone
namespace Go.Proofs.Ytehogiondcpbcaa
open Go.ChangeShapes Go.WideShapes Go.ChangeAt Go.RowKit
set_option linter.unusedVariables false
set_option linter.unusedSimpArgs false
set_option maxRecDepth 20000
theorem below_drew (W : World) : Below W.heap.size W W.drew := (Below.refl _ _).drew
theorem ne_rows {w : World} {a b : Nat} {x y : Array Value} {s t : TypeId} (h : Row w a x s) (k : Row w b y t) (hst : s ≠ t) : a ≠ b := ne_cellsC h k hst
def Rd4 (W1 : World) (F1 : Nat → Prop) (gc gd gl gk ak : Nat) (s1 : Cs) (l1 : Lg) (d2 : Dsk) (M : Int) (N : Nat) (A0 : Nat) (u : Bool) (k : Int) (BL : List Int) (X : Nat) (W : World) : Prop :=
  Row W X (bs BL) 41 ∧ Row W A0 #[.bool u, .int .u16 k] 31 ∧ ∃ F2, Off F1 W1 W ∧ CL W F2 gc gd gl gk ak s1 l1 d2 M N ∧ (∀ k, k < W1.heap.size → F2 k → F1 k) ∧ ¬ F2 X
theorem read_len {w : World} {g : Nat} {d : Dsk} {L : Loc} {N : Nat} (h : DAt w g d L N) (b : Int) : (read d b).1.length = 256 ∧ Bytes (read d b).1 := by
  unfold read
  split
  · rename_i q
    obtain ⟨h1, h2, e⟩ := ask_in q
    rw [e]
    rw [count_seen]
    exact Dsk.seen_length h b ⟨h1, h2⟩
  · exact ⟨zs_length _, zs_bytes _⟩
theorem own_form {w : World} {base : Nat} {e : TypeId} {size : Nat} {v : Value} {n : Nat} {xs : List Value} (h : w.ownsRow base e size v n xs) : ∃ oa cap, v = .slice oa n cap ∧ n ≤ cap := by
  rcases h.2 with ⟨e, h0⟩ | ⟨g, cap, cur, e, hb, hc, hcap, rest⟩
  · exact ⟨none, 0, by rw [e, h0], by omega⟩
  · exact ⟨some ⟨g, 0, none⟩, cap, e, hcap⟩
theorem own_some {w : World} {base : Nat} {e : TypeId} {size : Nat} {v : Value} {n : Nat} {xs : List Value} (h : w.ownsRow base e size v n xs) (hn : 0 < n) : ∃ a cap, v = .slice (some ⟨a, 0, none⟩) n cap := by
  rcases h.2 with ⟨e, h0⟩ | ⟨g, cap, cur, e, hb, hc, hcap, rest⟩
  · omega
  · exact ⟨g, cap, e⟩
theorem wp_frame_one {o : Oper} {a : Act} {w : World} {K : Act → World → Prop} {Q : Exit → Act → World → Prop} (x : Operand) (ho : o.op = .buildSlice 114 1 #[(0, x)]) (va : Array Value) (hb : va.size = 229) (hx : a.eval x = .agg va)
    (h : K (a.put o.dst (.slice (some ⟨w.heap.size, 0, none⟩) 1 1)) (w.alloc (.cells va 122))) : Oper.wp Try.prog o a w K Q := by
  obtain ⟨i, hi, hz, hs, _⟩ := Ck.info_parts info122
  refine wp_buildSlice 114 122 1 _ ho va i _ Try.underlying114 hi hz (by rw [hs]; decide) (by rw [hs]; decide) ?_ h
  have e1 : (#[(0, x)].map fun (i, x) => (i, a.eval x)).toList = [(0, .agg va)] := by simp [hx]
  rw [e1, fill_step _ _ 0 (.agg va) _ 0 229 (by simp [hs]) (by show va.size = 229; exact hb) (by simp [hs])]
  unfold Instr.fill
  congr 1
  show (⟨splice _ 0 va.toList⟩ : Array Value) = va
  unfold splice
  rw [List.take_zero, List.nil_append, Array.length_toList, hb, List.drop_of_length_le (by simp [hs]), List.append_nil]
theorem step_delete {H : Type} {P : Program} {ops : Array Oper} {o : Oper} {a : Act} {w : World} {K : Act → World → Prop} {Q : Exit → Act → World → Prop} {E : Prop} (hgd : o.guard = none) (m x : Operand) (t k : TypeId) (hop : o.op = Op.call { callee := Callee.builtin Builtin.delete, args := #[m, x], argTypes := #[t, k] })
    (e : TypeId) (KK : Maps.Keyed P k) (ht : P.underlying t = some (.map k e)) (R : Value → Option (DataW H × List MemPlace)) (b n : Nat) (D : DataW H)
    (hm : a.eval m = .map (some b)) (hown : w.ownsMap P k R b n D) (key : Value) (kl : Lit) (hx : a.eval x = key) (hkey : keyOf P k key = some kl)
    (hK : ∀ w', w'.ownsMap P k R b n (D.del kl) → w.mapTurned w' b → K (a.put o.dst (.tuple #[])) w') :
    if Region.wanted o (yielded ops a.tmps) = true then Oper.wp P o a w K Q else E := by
  have hw : Region.wanted o (yielded ops a.tmps) = true := by simp [Region.wanted, hgd]
  rw [if_pos hw]
  obtain ⟨w', hrun, r1, r2⟩ := hown.drop KK ht hkey o.type
  unfold Oper.wp
  simp [execOp, hop, resolve, invoke, builtin, hm, hx, hrun, Result.andThen]
  exact hK w' r1 r2
theorem step_mapup {P : Program} {ops : Array Oper} {o : Oper} {a : Act} {w : World} {K : Act → World → Prop} {Q : Exit → Act → World → Prop} {E : Prop} (hgd : o.guard = none) (m x v : Operand) (t : TypeId) (hop : o.op = Op.mapUpdate t m x v) (mv key val : Value)
    (hm : a.eval m = mv) (hx : a.eval x = key) (hv : a.eval v = val) (T : World → Prop) (hr : ∃ w', (Instr.mapUpdate t mv key val).run P w = .ok () w' ∧ T w')
    (hK : ∀ w', T w' → K (a.put o.dst undef) w') : if Region.wanted o (yielded ops a.tmps) = true then Oper.wp P o a w K Q else E := by
  have hw : Region.wanted o (yielded ops a.tmps) = true := by simp [Region.wanted, hgd]
  rw [if_pos hw]
  obtain ⟨w', hrun, hT⟩ := hr
  unfold Oper.wp
  simp [execOp, hop, hm, hx, hv, hrun, Result.andThen]
  exact hK w' hT
def Half8 (w : World) (F : Nat → Prop) (gc gd gl gk ak : Nat) (s1 : Cs) (l1 : Lg) (d2 : Dsk) (M : Int) (N : Nat) (A0 X : Nat) (u : Bool) (k : Int) (BL : List Int) (i : Nat) (f' : Fm) (W : World) : Prop :=
  ∃ (a cap m n : Nat) (gs : List Fm) (g0 : Fm) (I : Ids), HStep w F gc gd gl gk ak (.slice (some ⟨a, 0, none⟩) gs.length cap) m n s1 gs I l1 d2 M N W ∧ gs[i]? = some g0 ∧ (∀ f ∈ gs, f.Ok) ∧ gs.length ≤ 32 ∧ n < 1000000000000 ∧ I.put u k i = whereF (takeF s1.fs i f') ∧ gs.set i f' = takeF s1.fs i f' ∧ Row W A0 #[.bool u, .int .u16 k] 31 ∧ Row W X (bs BL) 41
theorem take_more (fs : List Fm) (f' : Fm) : takeF fs fs.length f' = fs ++ [f'] := if_pos rfl
theorem take_at {fs : List Fm} {i : Nat} (h : i < fs.length) (f' : Fm) : takeF fs i f' = fs.set i f' := if_neg (by omega)
theorem set_last {α : Type} (l : List α) (a b : α) : (l ++ [a]).set l.length b = l ++ [b] := by simp
theorem row_grown {w w' : World} {g : Nat} {cs : Array Value} {t : TypeId} (h : Row w g cs t) {b : Option Nat} (hg : w.grownBy w' b) (hn : ∀ j, b = some j → g ≠ j) : Row w' g cs t := by
  have O : Off (fun j => b = some j) w w' := Off.of_grown hg (fun j q => q)
  exact h.off O (fun q => hn g q rfl)
theorem CB.there {w : World} {gc gd gl gk ak : Nat} {a cap : Nat} {m n : Nat} {s : Cs} {gs : List Fm} {I : Ids} {M : Int} (c : CB w gc gd gl gk ak (.slice (some ⟨a, 0, none⟩) gs.length cap) m n s gs I M) (ok : ∀ f ∈ gs, f.Ok) {i : Nat} (hi : i < gs.length) : w.there a (i * 229) 229 := fun j hj => by
  have hl := flatF_length ok
  refine ⟨?_, c.own.frozenAt _⟩
  rw [c.own.cellAt _ (by omega), List.getElem?_eq_getElem (by rw [hl]; omega)]
  rfl
theorem CB.cells {w : World} {gc gd gl gk ak : Nat} {a cap : Nat} {m n : Nat} {s : Cs} {gs : List Fm} {I : Ids} {M : Int} (c : CB w gc gd gl gk ak (.slice (some ⟨a, 0, none⟩) gs.length cap) m n s gs I M) (ok : ∀ f ∈ gs, f.Ok) {i : Nat} {f : Fm} (hf : gs[i]? = some f) (j : Nat) (v : Value) (hj : f.cells[j]? = some v) : w.cell? ⟨a, i * 229 + j, none⟩ = some v := by
  have hl := (List.getElem?_eq_some_iff.1 hf).1
  have hj2 : j < 229 := by have := (List.getElem?_eq_some_iff.1 hj).1; rw [Fm.cells_length (ok f (List.mem_of_getElem? hf)).len] at this; exact this
  rw [c.own.cellAt _ (by omega), flatF_at ok i j f hf hj2]
  exact hj
theorem HStep.cb {w : World} {F : Nat → Prop} {gc gd gl gk ak : Nat} {fv : Value} {m n : Nat} {s : Cs} {gs : List Fm} {I : Ids} {l : Lg} {d : Dsk} {M : Int} {N : Nat} {W : World} (h : HStep w F gc gd gl gk ak fv m n s gs I l d M N W) : CB W gc gd gl gk ak fv m n s gs I M := by
  obtain ⟨_, _, _, _, cB, _⟩ := h
  exact cB
theorem fm_row {f : Fm} (h : f.p.length = 224) (j : Nat) (u : Value) (hu : ([.bool f.un, .int .u16 f.no] : List Value)[j]? = some u) : f.cells[j]? = some u := by
  have hj : j < 2 := (List.getElem?_eq_some_iff.1 hu).1
  show (([.bool f.un, .int .u16 f.no] : List Value) ++ (f.p.map (Value.int .u8) ++ _))[j]? = some u
  rw [List.getElem?_append_left (by simpa using hj)]
  exact hu
def LoadQ (w : World) (F : Nat → Prop) (gc gd gl gk ak : Nat) (s : Cs) (l : Lg) (d : Dsk) (M : Int) (N : Nat) (u : Bool) (k : Int) (e : Ending) (w' : World) : Prop :=
  ∃ (i : Nat) (E : Int) (s' : Cs) (l' : Lg) (d' : Dsk), Loads s l d u k i E s' l' d' ∧ e = .returned (.tuple #[.int .i64 i, .int .i64 E]) ∧ CStep w F gc gd gl gk ak s' l' d' M (N + 4004) w'
set_option maxHeartbeats 4000000 in
theorem load_any {w : World} {F : Nat → Prop} {gc gd gl gk ak : Nat} {s : Cs} {l : Lg} {d : Dsk} {M : Int} {N : Nat} (c : CL w F gc gd gl gk ak s l d M N) (u : Bool) (k : Int) (hk : WfU k) (hn : posF s.fs u k = none) (his : isC s u k = true) (hi : l.Inv) (hfi : l.fin ≤ 18446744073709551615) (hop : d.ops + 4000 < 9223372036854775806) (hopF : (flushR l d).2.2.ops ≤ d.ops + 1000) (hN : N + 40000 < 1000000000000) : Calls Try.prog 46 #[.pointer (some ⟨gc, 0, none⟩), idv u k] w fun e w' => LoadQ w F gc gd gl gk ak s l d M N u k e w' := by
  obtain ⟨PP, HPP⟩ : ∃ PP : Ending → World → Prop, Hid (PP = fun e w' => LoadQ w F gc gd gl gk ak s l d M N u k e w') := ⟨_, rfl⟩
  rw [← HPP.out]
  have HPO : Hid (∀ (i : Nat) (E : Int) (s' : Cs) (l' : Lg) (d' : Dsk) (W : World), Loads s l d u k i E s' l' d' → CStep w F gc gd gl gk ak s' l' d' M (N + 4004) W → PP (.returned (.tuple #[.int .i64 i, .int .i64 E])) W) := by
    rw [HPP.out]
    exact fun i E s' l' d' W h1 h2 => ⟨i, E, s', l', d', h1, rfl, h2⟩
  clear HPP
  have r0 : Row (w.alloc (.cells #[.bool u, .int .u16 k] 31)) w.heap.size #[.bool u, .int .u16 k] 31 := Row.new _ _ _
  have ab : Below w.heap.size w (w.alloc (.cells #[.bool u, .int .u16 k] 31)) := (Below.refl _ _).alloc (Nat.le_refl _) _
  have HF0 : Hid (∀ j, F j → j < w.heap.size) := c.lt
  have HOK : Hid s.Ok := c.ok
  have HNP : Hid (posF s.fs u k = none) := hn
  have HIS : Hid (isC s u k = true) := his
  have HK : Hid (WfU k) := hk
  have HOPF : Hid ((flushR l d).2.2.ops ≤ d.ops + 1000) := hopF
  have HOP : Hid (d.ops + 4000 < 9223372036854775806) := hop
  have HN : Hid (N + 40000 < 1000000000000) := hN
  have hva := vacate_any (c.below ab) hi hfi (by omega) hopF (by omega)
  have HC : Hid (CL w F gc gd gl gk ak s l d M N) := c
  unfold idv
  clear hn his hk hopF hop hN hi hfi c
  go_enter Try.func46, Try.ntmps46
  go_upto_region 1 with fail
  generalize (w.alloc (.cells #[.bool u, .int .u16 k] 31)) = W0 at r0 ab hva ⊢
  obtain ⟨A0, HA0⟩ : ∃ A0, Hid (w.heap.size = A0) := ⟨_, rfl⟩
  rw [HA0.out] at r0 ⊢
  go_upto_region 2 with (first
    | (go_at_call 76; refine Calls.mono hva ?_; clear hva; rintro e W1 hq; obtain ⟨i, E, s1, l1, d1, hv, he, hst⟩ := Vacd.plain hq (by have := HN.out; omega); clear hq; obtain rfl := he))
  have HV : Hid (Vac s l d i E s1 l1 d1) := hv
  have HVF : Hid (VacF s d i s1 d1) := hv.f HOK.out
  have HO1 : Hid (d1.ops ≤ d.ops + 1002) := hv.ops HOPF.out
  have HST : Hid (CStep w F gc gd gl gk ak s1 l1 d1 M (N + 4004) W1) := CStep.ahead ab hst
  have hnA : ¬ F A0 := fun q => by have := HF0.out _ q; rw [HA0.out] at this; omega
  have r1 : Row W1 A0 #[.bool u, .int .u16 k] 31 := r0.off hst.1 hnA
  have hA1 : ¬ hst.2.choose A0 := fun q => hnA (hst.2.choose_spec.2 A0 (by have := r0.lt; exact this) q)
  clear hv
  by_cases hE : E = 0
  · subst hE
    have HAF : Hid (∃ F1, Off F w W1 ∧ CL W1 F1 gc gd gl gk ak s1 l1 d1 M (N + 4004) ∧ (∀ k, k < w.heap.size → F1 k → F k) ∧ ¬ F1 A0) := by
      refine ⟨_, HST.out.1, hst.2.choose_spec.1, fun k hk q => hst.2.choose_spec.2 k (Nat.lt_of_lt_of_le hk ab.size) q, hA1⟩
    clear hst hA1 hnA r0 ab
    obtain ⟨F1, o1, c1, k1, hA1⟩ := HAF.out
    clear HAF
    have HA1 : Hid (¬ F1 A0) := hA1
    have HC1 : Hid (CL W1 F1 gc gd gl gk ak s1 l1 d1 M (N + 4004)) := c1
    have HF1 : Hid (∀ j, F1 j → j < W1.heap.size) := c1.lt
    have HO : Hid (Off F w W1 ∧ ∀ k, k < w.heap.size → F1 k → F k) := ⟨o1, k1⟩
    obtain ⟨PLC, HPLC⟩ : ∃ PLC, Hid (placeC s1.pages u k = PLC) := ⟨_, rfl⟩
    obtain ⟨BL, HBLD⟩ : ∃ BL, Hid ((read d1 PLC).1 = BL) := ⟨_, rfl⟩
    obtain ⟨E2, HE2⟩ : ∃ E2, Hid ((read d1 PLC).2.1 = E2) := ⟨_, rfl⟩
    obtain ⟨d2, HD2⟩ : ∃ d2, Hid ((read d1 PLC).2.2 = d2) := ⟨_, rfl⟩
    have HBB : Hid (BL.length = 256 ∧ Bytes BL) := by
      obtain ⟨fv, m, n, vl, vs, L, cA, lD, _⟩ := c1.ex
      show _ ∧ _
      rw [← HBLD.out]
      exact read_len lD.dsk PLC
    have HBL : Hid ((bs BL).size = 256) := by rw [bs_size]; exact HBB.out.1
    have HBO : Hid ((bs BL).all (·.oneCell') = true) := bs_one BL
    have HPL : Hid (∀ W, Calls Try.prog 29 #[.int .i64 s1.pages, .agg #[.bool u, .int .u16 k]] W fun e w' => e = .returned (.int .i64 PLC) ∧ Below W.heap.size W w') := fun W => by
      have := cplace_any (s1.pages : Int) (by have := HC1.out.ok.pages; omega) u k HK.out W
      rw [HPLC.out] at this
      exact this
    have HRD : Hid (∀ W, CL W F1 gc gd gl gk ak s1 l1 d1 M (N + 4004) → Calls Try.prog 77 #[.pointer (some ⟨gd, 0, none⟩), .int .i64 PLC] W fun e w' => e = .returned (.tuple #[.agg (bs BL), .int .i64 E2]) ∧ CStep W F1 gc gd gl gk ak s1 l1 d2 M (N + 4004) w') := fun W c => by
      have := c.read (by have := HO1.out; have := HOP.out; omega) PLC
      rw [HBLD.out, HE2.out, HD2.out] at this
      exact this
    have HS1 : Hid (W1.drew.cell? ⟨gc, 0, none⟩ = some (.pointer (some ⟨gd, 0, none⟩)) ∧ W1.drew.cell? ⟨gc, 3, none⟩ = some (.int .i64 s1.pages) ∧ Row W1.drew A0 #[.bool u, .int .u16 k] 31) := by
      obtain ⟨fv, m, n, vl, vs, L, cA, _⟩ := c1.ex
      exact ⟨row_at cA.row 0 _ rfl, row_at cA.row 3 _ rfl, r1⟩
    have hz41 := zero41
    obtain ⟨ZB, HZBD⟩ : ∃ ZB, Hid (bs (zs 256) = ZB) := ⟨_, rfl⟩
    have HZB : Hid (ZB.size = 256) := by rw [← HZBD.out, bs_size]; exact zs_length _
    rw [HZBD.out] at hz41
    clear hA1 c1 k1 o1 r1
    go_upto_region 4 with fail
    go_cut [7, 8] from 17 to 30 (fun e x wx => e = .int .i64 E2 ∧ ∃ X, x = .pointer (some ⟨X, 0, none⟩) ∧ Rd4 W1 F1 gc gd gl gk ak s1 l1 d2 M (N + 4004) A0 u k BL X wx)
    case first =>
      refine wp_region_held_drew (S := fun W => W.cell? ⟨gc, 0, none⟩ = some (.pointer (some ⟨gd, 0, none⟩)) ∧ W.cell? ⟨gc, 3, none⟩ = some (.int .i64 s1.pages) ∧ Row W A0 #[.bool u, .int .u16 k] 31) (by kernel_rfl) HS1.out fun hS => ?_
      have c1 : CL W1.drew F1 gc gd gl gk ak s1 l1 d1 M (N + 4004) := HC1.out.below (below_drew W1)
      have b1 : Below W1.heap.size W1 W1.drew := (Below.refl _ _).drew
      generalize W1.drew = W1d at c1 b1 hS ⊢
      refine tkI (i := 0) (v := .pointer (some ⟨gc, 0, none⟩)) rfl (Or.inl ⟨by rfl, fun w _ => by rfl⟩) hS ?_
      try simp only [Act.put, nz]
      refine tkI (i := 1) (v := .pointer (some ⟨gc, 0, none⟩)) rfl (Or.inl ⟨by rfl, fun w _ => by go_simp⟩) hS ?_
      try simp only [Act.put, nz]
      refine tkI (i := 2) (v := .pointer (some ⟨gc, 0, none⟩)) rfl (Or.inl ⟨by rfl, fun w _ => by go_simp⟩) hS ?_
      try simp only [Act.put, nz]
      refine tkI (i := 3) (v := .pointer (some ⟨gd, 0, none⟩)) rfl (Or.inl ⟨by rfl, fun w h => by have c := h.1; go_simp⟩) hS ?_
      try simp only [Act.put, nz]
      refine tkI (i := 4) (v := .pointer (some ⟨gc, 0, none⟩)) rfl (Or.inl ⟨by rfl, fun w _ => by rfl⟩) hS ?_
      try simp only [Act.put, nz]
      refine tkI (i := 5) (v := .pointer (some ⟨gc, 0, none⟩)) rfl (Or.inl ⟨by rfl, fun w _ => by go_simp⟩) hS ?_
      try simp only [Act.put, nz]
      refine tkI (i := 6) (v := .pointer (some ⟨gc, 3, none⟩)) rfl (Or.inl ⟨by rfl, fun w _ => by go_simp⟩) hS ?_
      try simp only [Act.put, nz]
      refine tkI (i := 7) (v := .int .i64 s1.pages) rfl (Or.inl ⟨by rfl, fun w h => by have c := h.2.1; go_simp⟩) hS ?_
      try simp only [Act.put, nz]
      refine tkI (i := 8) (v := .agg #[.bool u, .int .u16 k]) rfl (yields_cells (by rfl) 31 (.tmp 3) rfl A0 rfl 31 #[.bool u, .int .u16 k] (fun w h => h.2.2) 2 Try.underlying31 rfl size31 rfl) hS ?_
      try simp only [Act.put, nz]
      refine wpAnyH_ready (rs := [9, 14]) (by kernel_rfl) (by simp) ?_
      refine (AllReadyH.cons rfl (fun K hK => ?_) (AllReadyH.cons rfl (fun K hK => ?_) AllReadyH.nil))
      · have hpl := HPL.out W1d
        go_simp
        go_at_call 29
        refine Calls.mono hpl ?_
        clear hpl
        rintro e Wp ⟨he, hb⟩
        obtain rfl := he
        have cp := c1.below hb
        have bp := b1.trans (hb.mono b1.size)
        have hS2 : Wp.cell? ⟨gc, 0, none⟩ = some (.pointer (some ⟨gd, 0, none⟩)) ∧ Wp.cell? ⟨gc, 3, none⟩ = some (.int .i64 s1.pages) ∧ Row Wp A0 #[.bool u, .int .u16 k] 31 := ⟨cell_keep hS.1 hb, cell_keep hS.2.1 hb, hS.2.2.below hb hS.2.2.lt⟩
        refine hK.out _ _ hS2 fun hS => ?_
        try simp only [Act.put, nz]
        clear hS2 hb c1 b1
        refine wpAnyH_ready (rs := [10, 14]) (by kernel_rfl) (by simp) ?_
        refine (AllReadyH.cons rfl (fun K hK => ?_) (AllReadyH.cons rfl (fun K hK => ?_) AllReadyH.nil))
        · have hrd := HRD.out Wp cp
          go_simp
          go_at_call 77
          refine Calls.mono hrd ?_
          clear hrd
          rintro e Wr ⟨he, oz, F2, cq, kz⟩
          obtain rfl := he
          have oq : Off F1 W1 Wr := (Off.of_below (F := F1) bp).trans oz (fun j q => Or.inl q)
          have kq : ∀ k, k < W1.heap.size → F2 k → F1 k := fun k hk q => kz k (Nat.lt_of_lt_of_le hk bp.size) q
          have hS2 : Wr.cell? ⟨gc, 0, none⟩ = some (.pointer (some ⟨gd, 0, none⟩)) ∧ Wr.cell? ⟨gc, 3, none⟩ = some (.int .i64 s1.pages) ∧ Row Wr A0 #[.bool u, .int .u16 k] 31 := by
            obtain ⟨fv, m, n, vl, vs, L, cA, _⟩ := cq.ex
            exact ⟨row_at cA.row 0 _ rfl, row_at cA.row 3 _ rfl, hS.2.2.off oz HA1.out⟩
          refine hK.out _ _ hS2 fun hS => ?_
          try simp only [Act.put, nz]
          clear hS2 oz kz cp bp
          refine tkI (i := 11) (v := .tuple #[.agg (bs BL), .int .i64 E2]) rfl (Or.inl ⟨by rfl, fun w _ => by rfl⟩) hS ?_
          try simp only [Act.put, nz]
          refine tkI (i := 12) (v := .agg (bs BL)) rfl (Or.inl ⟨by rfl, fun w _ => by go_simp⟩) hS ?_
          try simp only [Act.put, nz]
          refine tkI (i := 13) (v := .int .i64 E2) rfl (Or.inl ⟨by rfl, fun w _ => by go_simp⟩) hS ?_
          try simp only [Act.put, nz]
          refine wpAnyH_ready (rs := [14]) (by kernel_rfl) (by simp) ?_
          refine (AllReadyH.cons rfl (fun K hK => ?_) AllReadyH.nil)
          go_simp
          have rq : Row (Wr.alloc (.cells ZB 41)) Wr.heap.size ZB 41 := Row.new _ _ _
          have HXb : W1.heap.size ≤ Wr.heap.size := oq.size
          have hx2 : ¬ F2 Wr.heap.size := fun q => by have := cq.lt _ q; omega
          have bs1 : Below Wr.heap.size Wr (Wr.alloc (.cells ZB 41)) := (Below.refl _ _).alloc (Nat.le_refl _) _
          have cq2 := cq.below bs1
          have oq2 := oq.trans (Off.of_below (F := fun _ => False) bs1) (fun _ q => q.elim)
          have hS2 : (Wr.alloc (.cells ZB 41)).cell? ⟨gc, 0, none⟩ = some (.pointer (some ⟨gd, 0, none⟩)) ∧ (Wr.alloc (.cells ZB 41)).cell? ⟨gc, 3, none⟩ = some (.int .i64 s1.pages) ∧ Row (Wr.alloc (.cells ZB 41)) A0 #[.bool u, .int .u16 k] 31 := ⟨cell_keep hS.1 bs1, cell_keep hS.2.1 bs1, hS.2.2.below bs1 hS.2.2.lt⟩
          refine hK.out _ _ hS2 fun hS => ?_
          try simp only [Act.put, nz]
          clear hS2 bs1 cq oq
          generalize Wr.heap.size = X at rq HXb hx2 ⊢
          generalize Wr.alloc (.cells ZB 41) = Ws at rq cq2 oq2 hS ⊢
          refine wpAnyH_ready (rs := [15]) (by kernel_rfl) (by simp) ?_
          refine (AllReadyH.cons rfl (fun K hK => ?_) AllReadyH.nil)
          have ho2 : Off (· = X) Ws (Ws.setRow X (bs BL)) := Off.of_setRow _ _ _ rfl
          have HA0X : A0 ≠ X := ne_rows hS.2.2 rq (by decide)
          have hS2 : (Ws.setRow X (bs BL)).cell? ⟨gc, 0, none⟩ = some (.pointer (some ⟨gd, 0, none⟩)) ∧ (Ws.setRow X (bs BL)).cell? ⟨gc, 3, none⟩ = some (.int .i64 s1.pages) ∧ Row (Ws.setRow X (bs BL)) A0 #[.bool u, .int .u16 k] 31 := by
            have c9 := cq2.off ho2 (fun k q e => hx2 (by rw [← e]; exact q))
            obtain ⟨fv, m, n, vl, vs, L, cA, _⟩ := c9.ex
            exact ⟨row_at cA.row 0 _ rfl, row_at cA.row 3 _ rfl, hS.2.2.off ho2 HA0X⟩
          refine step_cells rfl 41 (.tmp 8) (.tmp 29) rfl X (bs BL) rfl rfl 41 _ rq 256 size41 HZB.out HBL.out HBO.out (hK.out _ _ hS2 fun hS => ?_)
          try simp only [Act.put, nz]
          refine tkI (i := 16) (v := .int .i64 E2) rfl (Or.inl ⟨by rfl, fun w _ => by go_simp⟩) hS ?_
          try simp only [Act.put, nz]
          refine wpAnyH_done (by kernel_rfl) ?_ _
          go_wp2
          go_meet
          case rel => exact ⟨rfl, X, rfl, rq.set _, hS.2.2, F2, oq2.trans ho2 (fun j q => Or.inr (by rw [q]; exact HXb)), cq2.off ho2 (fun k q e => hx2 (by rw [← e]; exact q)), kq, hx2⟩
        · go_simp
          have ba := bp.alloc bp.size (.cells ZB 41)
          have ra : Row (Wp.alloc (.cells ZB 41)) Wp.heap.size ZB 41 := Row.new _ _ _
          have HXb : W1.heap.size ≤ Wp.heap.size := bp.size
          have bs1 : Below Wp.heap.size Wp (Wp.alloc (.cells ZB 41)) := (Below.refl _ _).alloc (Nat.le_refl _) _
          have ca := cp.below bs1
          have hS2 : (Wp.alloc (.cells ZB 41)).cell? ⟨gc, 0, none⟩ = some (.pointer (some ⟨gd, 0, none⟩)) ∧ (Wp.alloc (.cells ZB 41)).cell? ⟨gc, 3, none⟩ = some (.int .i64 s1.pages) ∧ Row (Wp.alloc (.cells ZB 41)) A0 #[.bool u, .int .u16 k] 31 := ⟨cell_keep hS.1 bs1, cell_keep hS.2.1 bs1, hS.2.2.below bs1 hS.2.2.lt⟩
          refine hK.out _ _ hS2 fun hS => ?_
          try simp only [Act.put, nz]
          clear hS2 bs1 cp bp
          generalize Wp.alloc (.cells ZB 41) = Wa at ba ra ca hS ⊢
          generalize Wp.heap.size = X at ra HXb ⊢
          rename_i hS0
          have cb := ca
          have bb := ba
          have rbb := ra
          clear ca ba ra
          refine wpAnyH_ready (rs := [10]) (by kernel_rfl) (by simp) ?_
          refine (AllReadyH.cons rfl (fun K hK => ?_) AllReadyH.nil)
          have hrd := HRD.out Wa cb
          go_simp
          go_at_call 77
          refine Calls.mono hrd ?_
          clear hrd
          rintro e Wr ⟨he, oz, F2, cq, kz⟩
          obtain rfl := he
          have oq : Off F1 W1 Wr := (Off.of_below (F := F1) bb).trans oz (fun j q => Or.inl q)
          have kq : ∀ k, k < W1.heap.size → F2 k → F1 k := fun k hk q => kz k (Nat.lt_of_lt_of_le hk bb.size) q
          have hS2 : Wr.cell? ⟨gc, 0, none⟩ = some (.pointer (some ⟨gd, 0, none⟩)) ∧ Wr.cell? ⟨gc, 3, none⟩ = some (.int .i64 s1.pages) ∧ Row Wr A0 #[.bool u, .int .u16 k] 31 := by
            obtain ⟨fv, m, n, vl, vs, L, cA, _⟩ := cq.ex
            exact ⟨row_at cA.row 0 _ rfl, row_at cA.row 3 _ rfl, hS.2.2.off oz HA1.out⟩
          have rq := rbb.off oz (fun q => by have := HF1.out _ q; have := HXb; omega)
          have hx2 : ¬ F2 X := fun q => by
            have := kz X rbb.lt q
            have := HF1.out _ this
            have := HXb
            omega
          refine hK.out _ _ hS2 fun hS => ?_
          try simp only [Act.put, nz]
          clear hS2 oz kz cb bb rbb
          refine tkI (i := 11) (v := .tuple #[.agg (bs BL), .int .i64 E2]) rfl (Or.inl ⟨by rfl, fun w _ => by rfl⟩) hS ?_
          try simp only [Act.put, nz]
          refine tkI (i := 12) (v := .agg (bs BL)) rfl (Or.inl ⟨by rfl, fun w _ => by go_simp⟩) hS ?_
          try simp only [Act.put, nz]
          refine tkI (i := 13) (v := .int .i64 E2) rfl (Or.inl ⟨by rfl, fun w _ => by go_simp⟩) hS ?_
          try simp only [Act.put, nz]
          refine wpAnyH_ready (rs := [15]) (by kernel_rfl) (by simp) ?_
          refine (AllReadyH.cons rfl (fun K hK => ?_) AllReadyH.nil)
          have ho2 : Off (· = X) Wr (Wr.setRow X (bs BL)) := Off.of_setRow _ _ _ rfl
          have HA0X : A0 ≠ X := ne_rows hS.2.2 rq (by decide)
          have hS2 : (Wr.setRow X (bs BL)).cell? ⟨gc, 0, none⟩ = some (.pointer (some ⟨gd, 0, none⟩)) ∧ (Wr.setRow X (bs BL)).cell? ⟨gc, 3, none⟩ = some (.int .i64 s1.pages) ∧ Row (Wr.setRow X (bs BL)) A0 #[.bool u, .int .u16 k] 31 := by
            have c9 := cq.off ho2 (fun k q e => hx2 (by rw [← e]; exact q))
            obtain ⟨fv, m, n, vl, vs, L, cA, _⟩ := c9.ex
            exact ⟨row_at cA.row 0 _ rfl, row_at cA.row 3 _ rfl, hS.2.2.off ho2 HA0X⟩
          refine step_cells rfl 41 (.tmp 8) (.tmp 29) rfl X (bs BL) rfl rfl 41 _ rq 256 size41 HZB.out HBL.out HBO.out (hK.out _ _ hS2 fun hS => ?_)
          try simp only [Act.put, nz]
          refine tkI (i := 16) (v := .int .i64 E2) rfl (Or.inl ⟨by rfl, fun w _ => by go_simp⟩) hS ?_
          try simp only [Act.put, nz]
          refine wpAnyH_done (by kernel_rfl) ?_ _
          go_wp2
          go_meet
          case rel => exact ⟨rfl, X, rfl, rq.set _, hS.2.2, F2, oq.trans ho2 (fun j q => Or.inr (by rw [q]; exact HXb)), cq.off ho2 (fun k q e => hx2 (by rw [← e]; exact q)), kq, hx2⟩
      · go_simp
        have ba := b1.alloc b1.size (.cells ZB 41)
        have ra : Row (W1d.alloc (.cells ZB 41)) W1d.heap.size ZB 41 := Row.new _ _ _
        have HXb : W1.heap.size ≤ W1d.heap.size := b1.size
        have bs1 : Below W1d.heap.size W1d (W1d.alloc (.cells ZB 41)) := (Below.refl _ _).alloc (Nat.le_refl _) _
        have ca := c1.below bs1
        have hS2 : (W1d.alloc (.cells ZB 41)).cell? ⟨gc, 0, none⟩ = some (.pointer (some ⟨gd, 0, none⟩)) ∧ (W1d.alloc (.cells ZB 41)).cell? ⟨gc, 3, none⟩ = some (.int .i64 s1.pages) ∧ Row (W1d.alloc (.cells ZB 41)) A0 #[.bool u, .int .u16 k] 31 := ⟨cell_keep hS.1 bs1, cell_keep hS.2.1 bs1, hS.2.2.below bs1 hS.2.2.lt⟩
        refine hK.out _ _ hS2 fun hS => ?_
        try simp only [Act.put, nz]
        clear hS2 bs1 c1 b1
        generalize W1d.alloc (.cells ZB 41) = Wa at ba ra ca hS ⊢
        generalize W1d.heap.size = X at ra HXb ⊢
        rename_i hS0
        have cb := ca
        have bb := ba
        have rbb := ra
        clear ca ba ra
        refine wpAnyH_ready (rs := [9]) (by kernel_rfl) (by simp) ?_
        refine (AllReadyH.cons rfl (fun K hK => ?_) AllReadyH.nil)
        have hpl := HPL.out Wa
        go_simp
        go_at_call 29
        refine Calls.mono hpl ?_
        clear hpl
        rintro e Wp ⟨he, hb⟩
        obtain rfl := he
        have cp := cb.below hb
        have bp := bb.trans (hb.mono bb.size)
        have rp := rbb.below hb rbb.lt
        have hS2 : Wp.cell? ⟨gc, 0, none⟩ = some (.pointer (some ⟨gd, 0, none⟩)) ∧ Wp.cell? ⟨gc, 3, none⟩ = some (.int .i64 s1.pages) ∧ Row Wp A0 #[.bool u, .int .u16 k] 31 := ⟨cell_keep hS.1 hb, cell_keep hS.2.1 hb, hS.2.2.below hb hS.2.2.lt⟩
        refine hK.out _ _ hS2 fun hS => ?_
        try simp only [Act.put, nz]
        clear hS2 hb cb bb rbb
        refine wpAnyH_ready (rs := [10]) (by kernel_rfl) (by simp) ?_
        refine (AllReadyH.cons rfl (fun K hK => ?_) AllReadyH.nil)
        have hrd := HRD.out Wp cp
        go_simp
        go_at_call 77
        refine Calls.mono hrd ?_
        clear hrd
        rintro e Wr ⟨he, oz, F2, cq, kz⟩
        obtain rfl := he
        have oq : Off F1 W1 Wr := (Off.of_below (F := F1) bp).trans oz (fun j q => Or.inl q)
        have kq : ∀ k, k < W1.heap.size → F2 k → F1 k := fun k hk q => kz k (Nat.lt_of_lt_of_le hk bp.size) q
        have hS2 : Wr.cell? ⟨gc, 0, none⟩ = some (.pointer (some ⟨gd, 0, none⟩)) ∧ Wr.cell? ⟨gc, 3, none⟩ = some (.int .i64 s1.pages) ∧ Row Wr A0 #[.bool u, .int .u16 k] 31 := by
          obtain ⟨fv, m, n, vl, vs, L, cA, _⟩ := cq.ex
          exact ⟨row_at cA.row 0 _ rfl, row_at cA.row 3 _ rfl, hS.2.2.off oz HA1.out⟩
        have rq := rp.off oz (fun q => by have := HF1.out _ q; have := HXb; omega)
        have hx2 : ¬ F2 X := fun q => by
          have := kz X rp.lt q
          have := HF1.out _ this
          have := HXb
          omega
        refine hK.out _ _ hS2 fun hS => ?_
        try simp only [Act.put, nz]
        clear hS2 oz kz cp bp rp
        refine tkI (i := 11) (v := .tuple #[.agg (bs BL), .int .i64 E2]) rfl (Or.inl ⟨by rfl, fun w _ => by rfl⟩) hS ?_
        try simp only [Act.put, nz]
        refine tkI (i := 12) (v := .agg (bs BL)) rfl (Or.inl ⟨by rfl, fun w _ => by go_simp⟩) hS ?_
        try simp only [Act.put, nz]
        refine tkI (i := 13) (v := .int .i64 E2) rfl (Or.inl ⟨by rfl, fun w _ => by go_simp⟩) hS ?_
        try simp only [Act.put, nz]
        refine wpAnyH_ready (rs := [15]) (by kernel_rfl) (by simp) ?_
        refine (AllReadyH.cons rfl (fun K hK => ?_) AllReadyH.nil)
        have ho2 : Off (· = X) Wr (Wr.setRow X (bs BL)) := Off.of_setRow _ _ _ rfl
        have HA0X : A0 ≠ X := ne_rows hS.2.2 rq (by decide)
        have hS2 : (Wr.setRow X (bs BL)).cell? ⟨gc, 0, none⟩ = some (.pointer (some ⟨gd, 0, none⟩)) ∧ (Wr.setRow X (bs BL)).cell? ⟨gc, 3, none⟩ = some (.int .i64 s1.pages) ∧ Row (Wr.setRow X (bs BL)) A0 #[.bool u, .int .u16 k] 31 := by
          have c9 := cq.off ho2 (fun k q e => hx2 (by rw [← e]; exact q))
          obtain ⟨fv, m, n, vl, vs, L, cA, _⟩ := c9.ex
          exact ⟨row_at cA.row 0 _ rfl, row_at cA.row 3 _ rfl, hS.2.2.off ho2 HA0X⟩
        refine step_cells rfl 41 (.tmp 8) (.tmp 29) rfl X (bs BL) rfl rfl 41 _ rq 256 size41 HZB.out HBL.out HBO.out (hK.out _ _ hS2 fun hS => ?_)
        try simp only [Act.put, nz]
        refine tkI (i := 16) (v := .int .i64 E2) rfl (Or.inl ⟨by rfl, fun w _ => by go_simp⟩) hS ?_
        try simp only [Act.put, nz]
        refine wpAnyH_done (by kernel_rfl) ?_ _
        go_wp2
        go_meet
        case rel => exact ⟨rfl, X, rfl, rq.set _, hS.2.2, F2, oq.trans ho2 (fun j q => Or.inr (by rw [q]; exact HXb)), cq.off ho2 (fun k q e => hx2 (by rw [← e]; exact q)), kq, hx2⟩
    case rest =>
      obtain ⟨rfl, X, rfl, hrd4⟩ := hcut
      clear hz41
      have HPS : Hid (placeC s.pages u k = PLC) := by show _ = _; rw [← HPLC.out, HVF.out.pages]
      obtain ⟨hbX, hr0, F2, o4, c4, k4, hx4⟩ := hrd4
      have hst4 : CStep w F gc gd gl gk ak s1 l1 d2 M (N + 4004) wc := CStep.behind2 HO.out.1 HO.out.2 ⟨o4, F2, c4, k4⟩
      clear o4 c4 k4 hx4
      by_cases hE2 : E2 = 0
      · subst hE2
        obtain ⟨fv, m, n, hnn, hH, hok1⟩ := HStep.start hst4
        clear hst4
        have HOK1 : Hid s1.Ok := hok1
        have HNN : Hid (n < 1000000000000) := hnn
        clear hok1
        obtain ⟨oa, cap, rfl, hcap⟩ := own_form hH.cb.own
        have c6 : wc.cell? ⟨gc, 6, none⟩ = some (.slice oa s1.fs.length cap) := row_at hH.cb.row 6 _ rfl
        obtain ⟨f', HFR⟩ : ∃ f', Hid (openF u k BL = f') := ⟨_, rfl⟩
        have HFU : Hid (f'.un = u ∧ f'.no = k) := by show _ ∧ _; rw [← HFR.out]; exact ⟨openF_un u k BL, openF_no u k BL⟩
        have HP1 : Hid (posF s1.fs u k = none) := by show _ = _; rw [HVF.out.pos]; exact HNP.out
        clear hcap hnn
        have hnn := HNN.out
        go_upto_if 40 with fail
        go_cut [] from 40 to 62 (fun wx => Half8 w F gc gd gl gk ak s1 l1 d2 M (N + 4004) A0 X u k BL i f' wx)
        case first =>
          by_cases hil : (i : Int) = (s1.fs.length : Int)
          · have HIL : Hid (i = s1.fs.length) := by show _ = _; omega
            have kk : ((i : Int) == (s1.fs.length : Int)) = true := by simpa using hil
            clear hil
            obtain ⟨Z, HZ⟩ : ∃ Z, Hid (Fm.zero.arr = Z) := ⟨_, rfl⟩
            have HZS : Hid (Z.size = 229) := by rw [← HZ.out]; exact fz
            have bu := built122_none
            rw [HZ.out] at bu
            have hba : Below wc.heap.size wc (wc.alloc (.cells Z 122)) := (Below.refl _ _).alloc (Nat.le_refl _) _
            have hHa := hH.below hba
            have rX : Row (wc.alloc (.cells Z 122)) wc.heap.size Fm.zero.arr 122 := by rw [HZ.out]; exact Row.new _ _ _
            have HR : Hid (∀ ty, ∃ v' w', (Builtin.append_ #[114, 114] ty #[(.slice oa s1.fs.length cap), .slice (some ⟨wc.heap.size, 0, none⟩) 1 1]).run Try.prog (wc.alloc (.cells Z 122)) = .ok v' w' ∧ (w'.ownsRow 0 122 229 v' (s1.fs ++ [Fm.zero]).length (flatF (s1.fs ++ [Fm.zero])) ∧ World.grownBy (wc.alloc (.cells Z 122)) w' (Value.ownBlock (.slice oa s1.fs.length cap)) ∧ (v'.ownBlock = Value.ownBlock (.slice oa s1.fs.length cap) ∨ v'.ownBlock = some (World.heap (wc.alloc (.cells Z 122))).size))) := fun ty => more_run hHa.cb.own ty wc.heap.size Fm.zero (zs_length _) rX (Nat.zero_le _) (by have := HOK1.out.few; have := HOK1.out.most.2; omega)
            have HHA : Hid (HStep w F gc gd gl gk ak (.slice oa s1.fs.length cap) m n s1 s1.fs (whereF s1.fs) l1 d2 M (N + 4004) (wc.alloc (.cells Z 122))) := hHa
            have HRA : Hid (Row (wc.alloc (.cells Z 122)) A0 #[.bool u, .int .u16 k] 31 ∧ Row (wc.alloc (.cells Z 122)) X (bs BL) 41) := ⟨hr0.below hba hr0.lt, hbX.below hba hbX.lt⟩
            have HCC : Hid (∀ W', World.grownBy (wc.alloc (.cells Z 122)) W' (Value.ownBlock (.slice oa s1.fs.length cap)) → Row W' gc (ccells gd gl gk (.slice oa s1.fs.length cap) m s1) 117) := fun W' q => row_grown HHA.out.cb.row q (fun j e e2 => HHA.out.cb.ne.a_gc j e e2.symm)
            clear hba hHa rX hH hr0 hbX
            have tb : Hid (1 = 1) := rfl
            have ts : Hid (1 = 1) := rfl
            have ta : Hid (1 = 1) := rfl
            go_wp2_with (first
              | (have hh := tb; clear hh tb; refine build_parts rfl 122 #[] rfl [] rfl Z bu ?_)
              | (have hh := ts; clear hh ts; refine wpList_plain rfl fun K hK => wp_frame_one (.tmp 46) rfl Z HZS.out rfl (hK _ _ ?_))
              | (have hh := ta; clear hh ta; refine Ck.wpList_copy rfl (.tmp 45) (.tmp 47) 114 rfl _ _ rfl rfl HR.out ?_; rintro v7 W7 ⟨own7, gr7, hv7⟩; obtain ⟨a7, cap7, rfl⟩ := own_some own7 (by simp); have r7 := HCC.out W7 gr7; have c67 : W7.cell? ⟨gc, 6, none⟩ = some (.slice oa s1.fs.length cap) := row_at r7 6 _ rfl; have f67 := row_frozen r7 6; clear r7))
            go_meet
            case rel =>
              have hel : (s1.fs ++ [Fm.zero]).length = s1.fs.length + 1 := by simp
              rw [← hel]
              have hfin := HHA.out.more own7 gr7 hv7
              have hne := HHA.out.cb.ne
              have O1 : Off (fun j => Value.ownBlock (.slice oa s1.fs.length cap) = some j) (wc.alloc (.cells Z 122)) W7 := Off.of_grown gr7 (fun j q => q)
              have O2 : Off (· = gc) W7 (W7.setCell ⟨gc, 6, none⟩ (.slice (some ⟨a7, 0, none⟩) (s1.fs ++ [Fm.zero]).length cap7)) := Off.of_setCell _ _ _ rfl
              have kr := HHA.out.cb.row
              have kn : ∀ (g : Nat) (cs : Array Value) (t : TypeId), Row (wc.alloc (.cells Z 122)) g cs t → t ≠ 117 → t ≠ 122 → Row (W7.setCell ⟨gc, 6, none⟩ (.slice (some ⟨a7, 0, none⟩) (s1.fs ++ [Fm.zero]).length cap7)) g cs t := fun g cs t h h1 h2 => by
                refine (h.off O1 (fun q => ?_)).off O2 (fun q => ne_rows h kr h1 q)
                rcases HHA.out.cb.own.2 with ⟨e, _⟩ | ⟨g', cap', cur, e, _, hcc, _⟩
                · rw [e] at q; cases q
                · rw [e] at q; cases q; exact ne_rows h hcc h2 rfl
              refine ⟨a7, cap7, m, n, s1.fs ++ [Fm.zero], Fm.zero, whereF s1.fs, hfin, ?_, fun f hf => ?_, ?_, hnn, ?_, ?_, kn _ _ _ HRA.out.1 (by decide) (by decide), kn _ _ _ HRA.out.2 (by decide) (by decide)⟩
              · rw [HIL.out]; simp
              · rcases List.mem_append.1 hf with q | q
                · exact HOK1.out.fs f q
                · rw [List.mem_singleton.1 q]; exact Fm.zero_ok
              · have h2 := HOK1.out.most.2
                have h3 := HVF.out.at_.1
                have h4 := HVF.out.most
                have h5 := HIL.out
                rw [List.length_append]; simp only [List.length_cons, List.length_nil]; omega
              · have h9 := where_more (fs := s1.fs) (f := f') (by rw [HFU.out.1, HFU.out.2]; exact HP1.out)
                rw [HFU.out.1, HFU.out.2] at h9
                rw [HIL.out, take_more, h9]
              · rw [HIL.out, take_more, set_last]
          · have HIL : Hid (i < s1.fs.length) := by have h3 := HVF.out.at_.2; have h4 := HVF.out.len; show _ < _; omega
            have kk : ((i : Int) == (s1.fs.length : Int)) = false := by simpa using hil
            have hil2 : (i : Int) < (s1.fs.length : Int) := by have := HIL.out; omega
            have HLEN : Hid (s1.fs.length ≤ 32) := by have := HOK1.out.few; have := HOK1.out.most.2; show _ ≤ _; omega
            clear hil
            obtain ⟨f1, hf1⟩ : ∃ f1, s1.fs[i]? = some f1 := ⟨_, List.getElem?_eq_getElem HIL.out⟩
            have HF1X : Hid (s1.fs[i]? = some f1) := hf1
            have HFO : Hid f1.Ok := HOK1.out.fs f1 (List.mem_of_getElem? hf1)
            obtain ⟨a, cap9, e9⟩ := own_some hH.cb.own (by have := HIL.out; omega)
            obtain ⟨rfl, -, rfl⟩ : oa = some ⟨a, 0, none⟩ ∧ True ∧ cap = cap9 := by cases e9; exact ⟨rfl, trivial, rfl⟩
            clear e9 hf1
            go_upto_region 9 with fail
            have HH : Hid (HStep w F gc gd gl gk ak (.slice (some ⟨a, 0, none⟩) s1.fs.length cap) m n s1 s1.fs (whereF s1.fs) l1 d2 M (N + 4004) wc.drew) := hH.below (below_drew wc)
            have HR9 : Hid (Row wc.drew A0 #[.bool u, .int .u16 k] 31 ∧ Row wc.drew X (bs BL) 41) := ⟨hr0, hbX⟩
            refine wp_region_held_drew (S := fun W => Row W gc (ccells gd gl gk (.slice (some ⟨a, 0, none⟩) s1.fs.length cap) m s1) 117 ∧ ∀ j v, ([.bool f1.un, .int .u16 f1.no] : List Value)[j]? = some v → W.cell? ((⟨a, i * 229, none⟩ : Addr).add j) = some v) (by kernel_rfl) ⟨HH.out.cb.row, fun j v q => by
              rw [Addr.add_mid]
              exact HH.out.cb.cells HOK1.out.fs HF1X.out j v (fm_row HFO.out.len j v q)⟩ fun hS => ?_
            clear hH hr0 hbX c6
            generalize wc.drew = W9 at HH HR9 hS ⊢
            refine tkI (i := 0) (v := .pointer (some ⟨gc, 0, none⟩)) rfl (Or.inl ⟨by rfl, fun w _ => by rfl⟩) hS ?_
            try simp only [Act.put, nz]
            refine tkI (i := 1) (v := .pointer (some ⟨gc, 0, none⟩)) rfl (Or.inl ⟨by rfl, fun w _ => by go_simp⟩) hS ?_
            try simp only [Act.put, nz]
            refine tkI (i := 2) (v := .pointer (some ⟨gc, 7, none⟩)) rfl (Or.inl ⟨by rfl, fun w _ => by go_simp⟩) hS ?_
            try simp only [Act.put, nz]
            refine tkI (i := 3) (v := .map (some m)) rfl (Or.inl ⟨by rfl, fun w h => by have c : w.cell? ⟨gc, 7, none⟩ = some (.map (some m)) := row_at h.1 7 _ rfl; go_simp⟩) hS ?_
            try simp only [Act.put, nz]
            refine tkI (i := 4) (v := .pointer (some ⟨gc, 0, none⟩)) rfl (Or.inl ⟨by rfl, fun w _ => by rfl⟩) hS ?_
            try simp only [Act.put, nz]
            refine tkI (i := 5) (v := .pointer (some ⟨gc, 0, none⟩)) rfl (Or.inl ⟨by rfl, fun w _ => by go_simp⟩) hS ?_
            try simp only [Act.put, nz]
            refine tkI (i := 6) (v := .pointer (some ⟨gc, 6, none⟩)) rfl (Or.inl ⟨by rfl, fun w _ => by go_simp⟩) hS ?_
            try simp only [Act.put, nz]
            refine tkI (i := 7) (v := .slice (some ⟨a, 0, none⟩) s1.fs.length cap) rfl (Or.inl ⟨by rfl, fun w h => by have c : w.cell? ⟨gc, 6, none⟩ = some (.slice (some ⟨a, 0, none⟩) s1.fs.length cap) := row_at h.1 6 _ rfl; go_simp⟩) hS ?_
            try simp only [Act.put, nz]
            refine tkI (i := 8) (v := .int .i64 i) rfl (Or.inl ⟨by rfl, fun w _ => by rfl⟩) hS ?_
            try simp only [Act.put, nz]
            refine tkI (i := 9) (v := .pointer (some ⟨a, i * 229, none⟩)) rfl (Or.inl ⟨by rfl, fun w _ => by go_simp⟩) hS ?_
            try simp only [Act.put, nz]
            refine tkI (i := 10) (v := .pointer (some ⟨a, i * 229, none⟩)) rfl (Or.inl ⟨by rfl, fun w _ => by go_simp⟩) hS ?_
            try simp only [Act.put, nz]
            refine tkI (i := 11) (v := .agg #[.bool f1.un, .int .u16 f1.no]) rfl (yields_any (by rfl) 31 (.tmp 61) rfl ⟨a, i * 229, none⟩ rfl [.bool f1.un, .int .u16 f1.no] _ (fun w h => h.2) Try.underlying31 rfl (by rw [size31]; rfl)) hS ?_
            try simp only [Act.put, nz]
            obtain ⟨D, hD, hh⟩ := HH.out.cb.map
            have HDM : Hid (Maps.IsMap D) := hD.isMap
            refine wpAnyH_ready (rs := [12]) (by kernel_rfl) (by simp) ?_
            refine AllReadyH.cons rfl (fun K hK => step_delete rfl (.tmp 54) (.tmp 62) 115 31 rfl 3 law31 Try.underlying115 numR m n D rfl hD (idv f1.un f1.no) (idl f1.un f1.no) rfl (id_mk HFO.out.no) ?_) AllReadyH.nil
            intro W10 hown10 hturn
            have hne := HH.out.cb.ne
            have hg10 : W9.grownBy W10 (some m) := hturn.grown
            have O10 : Off (· = m) W9 W10 := Off.of_grown hg10 (fun j q => by cases q; rfl)
            have HH2 : Hid (HStep w F gc gd gl gk ak (.slice (some ⟨a, 0, none⟩) s1.fs.length cap) m n s1 s1.fs ((whereF s1.fs).del f1.un f1.no) l1 d2 M (N + 4004) W10) := HH.out.mapd hg10 (WMap.dropped (w := W9) hh HDM.out HFO.out.no hown10)
            have HR2 : Hid (Row W10 A0 #[.bool u, .int .u16 k] 31 ∧ Row W10 X (bs BL) 41) := ⟨HR9.out.1.off O10 (fun q => ne_mapC HR9.out.1 HH.out.cb.map.is q), HR9.out.2.off O10 (fun q => ne_mapC HR9.out.2 HH.out.cb.map.is q)⟩
            have hS2 : Row W10 gc (ccells gd gl gk (.slice (some ⟨a, 0, none⟩) s1.fs.length cap) m s1) 117 ∧ ∀ j v, ([.bool f1.un, .int .u16 f1.no] : List Value)[j]? = some v → W10.cell? ((⟨a, i * 229, none⟩ : Addr).add j) = some v := ⟨HH2.out.cb.row, fun j v q => by
              rw [Addr.add_mid]
              exact HH2.out.cb.cells HOK1.out.fs HF1X.out j v (fm_row HFO.out.len j v q)⟩
            refine hK.out _ _ hS2 fun hS => ?_
            try simp only [Act.put, nz]
            refine wpAnyH_done (by kernel_rfl) ?_ _
            clear hD hh hown10 hturn hg10 O10 hne hS2
            go_wp2
            go_meet
            case rel =>
              refine ⟨a, cap, m, n, s1.fs, f1, (whereF s1.fs).del f1.un f1.no, HH2.out, HF1X.out, HOK1.out.fs, HLEN.out, hnn, ?_, ?_, HR2.out.1, HR2.out.2⟩
              · have h9 := where_swap HOK1.out.one (f' := f') HF1X.out (by rw [HFU.out.1, HFU.out.2]; exact HP1.out)
                rw [HFU.out.1, HFU.out.2] at h9
                rw [take_at HIL.out, h9]
              · rw [take_at HIL.out]
        case rest =>
          clear hbX hr0 hH c6 HNN hnn
          obtain ⟨a, cap2, m, n, gs, g0, I1, hH8, hg0, hgo, hgl, hn2, hI1, hgt, hr8, hx8⟩ := hcut
          have HG0 : Hid (gs[i]? = some g0) := hg0
          have HGO : Hid (∀ f ∈ gs, f.Ok) := hgo
          have HGL : Hid (i < gs.length) := (List.getElem?_eq_some_iff.1 hg0).1
          have HI1 : Hid (I1.put u k i = whereF (takeF s1.fs i f')) := hI1
          have HGT : Hid (gs.set i f' = takeF s1.fs i f') := hgt
          have HG32 : Hid (gs.length ≤ 32) := hgl
          have HNN : Hid (n < 1000000000000) := hn2
          have hil3 : (i : Int) < (gs.length : Int) := by have := HGL.out; omega
          have HFP : Hid (f'.p.length = 224) := by show _ = _; rw [← HFR.out]; exact (openF_ok u k HK.out BL HBB.out.1 HBB.out.2).len
          have HPGE : Hid (if f'.un = true then f'.no < s1.undo else f'.no < s1.pages) := by
            have h1 := HIS.out
            unfold isC at h1
            rw [HFU.out.1, HFU.out.2, HVF.out.undo, HVF.out.pages]
            show if u = true then k < (s.undo : Int) else k < (s.pages : Int)
            split
            · rename_i q; rw [if_pos q] at h1; exact of_decide_eq_true h1
            · rename_i q; rw [if_neg q] at h1; exact of_decide_eq_true h1
          obtain ⟨FA, HFA⟩ : ∃ FA, Hid (f'.arr = FA) := ⟨_, rfl⟩
          have HFS : Hid (FA.size = 229) := by rw [← HFA.out]; exact Fm.arr_size HFP.out
          have HFO : Hid (FA.all (·.oneCell') = true) := by rw [← HFA.out]; exact f'.one
          have HOPN : Hid (∀ W, Calls Try.prog 78 #[.agg #[.bool u, .int .u16 k], .agg (bs BL)] W fun e w' => e = .returned (.agg FA) ∧ Below W.heap.size W w') := fun W => by
            have := opened_any u k HK.out BL HBB.out.1 HBB.out.2 W
            rw [HFR.out, HFA.out] at this
            exact this
          clear hg0 hgo hgl hn2 hI1 hgt
          go_upto_region 10 with fail
          have HH : Hid (HStep w F gc gd gl gk ak (.slice (some ⟨a, 0, none⟩) (gs).length cap2) m n s1 (gs) I1 l1 d2 M (N + 4004) wc.drew) := hH8.below (below_drew wc)
          have HR10 : Hid (Row wc.drew A0 #[.bool u, .int .u16 k] 31 ∧ Row wc.drew X (bs BL) 41) := ⟨hr8, hx8⟩
          refine wp_region_held_drew (S := fun W => Row W gc (ccells gd gl gk (.slice (some ⟨a, 0, none⟩) gs.length cap2) m s1) 117 ∧ Row W A0 #[.bool u, .int .u16 k] 31 ∧ Row W X (bs BL) 41) (by kernel_rfl) ⟨HH.out.cb.row, HR10.out.1, HR10.out.2⟩ fun hS => ?_
          clear hH8 hr8 hx8
          generalize wc.drew = W9 at HH HR10 hS ⊢
          refine tkI (i := 0) (v := .pointer (some ⟨gc, 0, none⟩)) rfl (Or.inl ⟨by rfl, fun w _ => by rfl⟩) hS ?_
          try simp only [Act.put, nz]
          refine tkI (i := 1) (v := .pointer (some ⟨gc, 0, none⟩)) rfl (Or.inl ⟨by rfl, fun w _ => by go_simp⟩) hS ?_
          try simp only [Act.put, nz]
          refine tkI (i := 2) (v := .pointer (some ⟨gc, 6, none⟩)) rfl (Or.inl ⟨by rfl, fun w _ => by go_simp⟩) hS ?_
          try simp only [Act.put, nz]
          refine tkI (i := 3) (v := .slice (some ⟨a, 0, none⟩) gs.length cap2) rfl (Or.inl ⟨by rfl, fun w h => by have c : w.cell? ⟨gc, 6, none⟩ = some (.slice (some ⟨a, 0, none⟩) gs.length cap2) := row_at h.1 6 _ rfl; go_simp⟩) hS ?_
          try simp only [Act.put, nz]
          refine tkI (i := 4) (v := .int .i64 i) rfl (Or.inl ⟨by rfl, fun w _ => by rfl⟩) hS ?_
          try simp only [Act.put, nz]
          refine tkI (i := 5) (v := .agg #[.bool u, .int .u16 k]) rfl (yields_cells (by rfl) 31 (.tmp 3) rfl A0 rfl 31 #[.bool u, .int .u16 k] (fun w h => h.2.1) 2 Try.underlying31 rfl size31 rfl) hS ?_
          try simp only [Act.put, nz]
          refine tkI (i := 6) (v := .agg (bs BL)) rfl (yields_cells (by rfl) 41 (.tmp 8) rfl X rfl 41 (bs BL) (fun w h => h.2.2) 256 Try.underlying41 rfl size41 HBL.out) hS ?_
          try simp only [Act.put, nz]
          refine wpAnyH_ready (rs := [7]) (by kernel_rfl) (by simp) ?_
          refine (AllReadyH.cons rfl (fun K hK => ?_) AllReadyH.nil)
          have hopn := HOPN.out W9
          go_simp
          go_at_call 78
          refine Calls.mono hopn ?_
          clear hopn
          rintro e Wa ⟨he, hba⟩
          obtain rfl := he
          have HHa : Hid (HStep w F gc gd gl gk ak (.slice (some ⟨a, 0, none⟩) (gs).length cap2) m n s1 (gs) I1 l1 d2 M (N + 4004) Wa) := HH.out.below hba
          have hS2 : Row Wa gc (ccells gd gl gk (.slice (some ⟨a, 0, none⟩) gs.length cap2) m s1) 117 ∧ Row Wa A0 #[.bool u, .int .u16 k] 31 ∧ Row Wa X (bs BL) 41 := ⟨HHa.out.cb.row, hS.2.1.below hba hS.2.1.lt, hS.2.2.below hba hS.2.2.lt⟩
          refine hK.out _ _ hS2 fun hS => ?_
          try simp only [Act.put, nz]
          clear hS2 HH HR10 hba
          refine wpAnyH_ready (rs := [8]) (by kernel_rfl) (by simp) ?_
          refine (AllReadyH.cons rfl (fun K hK => ?_) AllReadyH.nil)
          go_simp
          refine hK.out _ _ hS fun hS => ?_
          try simp only [Act.put, nz]
          refine wpAnyH_ready (rs := [9]) (by kernel_rfl) (by simp) ?_
          have hth := HHa.out.cb.there HGO.out (i := i) HGL.out
          have HHb : Hid (HStep w F gc gd gl gk ak (.slice (some ⟨a, 0, none⟩) (gs.set i f').length cap2) m n s1 (gs.set i f') I1 l1 d2 M (N + 4004) (Wa.setCells a (i * 229) FA.toList)) := by
            have := HHa.out.put HGO.out HG0.out f' HFP.out
            rw [show FA.toList = f'.cells by rw [← HFA.out]; rfl]
            exact this
          obtain ⟨W10, HW10⟩ : ∃ W10, Hid (Wa.setCells a (i * 229) FA.toList = W10) := ⟨_, rfl⟩
          rw [HW10.out] at HHb
          have O10 : Off (· = a) Wa W10 := by rw [← HW10.out]; exact Off.of_setCells a _ _ _
          have kin : ∃ cur, Wa.heap[a]? = some (.cells cur 122 (0, 0)) := by
            rcases HHa.out.cb.own.2 with ⟨e, _⟩ | ⟨g', cap', cur, e, _, hcc, _⟩
            · cases e
            · cases e; exact ⟨cur, hcc⟩
          have hS2 : Row W10 gc (ccells gd gl gk (.slice (some ⟨a, 0, none⟩) gs.length cap2) m s1) 117 ∧ Row W10 A0 #[.bool u, .int .u16 k] 31 ∧ Row W10 X (bs BL) 41 := by
            obtain ⟨cur, hcc⟩ := kin
            exact ⟨hS.1.off O10 (fun q => ne_rows hS.1 hcc (by decide) q), hS.2.1.off O10 (fun q => ne_rows hS.2.1 hcc (by decide) q), hS.2.2.off O10 (fun q => ne_rows hS.2.2 hcc (by decide) q)⟩
          refine AllReadyH.cons rfl (fun K hK => Cl.step_of rfl (wp_store_mid 122 (.tmp 71) (.tmp 70) rfl a (i * 229) FA rfl rfl (by rw [HFS.out]; exact hth) (by rw [HFS.out]; exact size122) HFO.out ?_)) AllReadyH.nil
          rw [HW10.out]
          refine hK.out _ _ hS2 fun hS => ?_
          try simp only [Act.put, nz]
          refine wpAnyH_done (by kernel_rfl) ?_ _
          clear hth hS2 kin O10 HHa HW10
          go_upto_region 11 with fail
          have HHc : Hid (HStep w F gc gd gl gk ak (.slice (some ⟨a, 0, none⟩) (gs.set i f').length cap2) m n s1 (gs.set i f') I1 l1 d2 M (N + 4004) W10.drew) := HHb.out.below (below_drew W10)
          refine wp_region_held_drew (S := fun W => Row W gc (ccells gd gl gk (.slice (some ⟨a, 0, none⟩) gs.length cap2) m s1) 117 ∧ Row W A0 #[.bool u, .int .u16 k] 31) (by kernel_rfl) ⟨hS.1, hS.2.1⟩ fun hS => ?_
          clear HHb
          generalize W10.drew = W11 at HHc hS ⊢
          refine tkI (i := 0) (v := .pointer (some ⟨gc, 0, none⟩)) rfl (Or.inl ⟨by rfl, fun w _ => by rfl⟩) hS ?_
          try simp only [Act.put, nz]
          refine tkI (i := 1) (v := .pointer (some ⟨gc, 0, none⟩)) rfl (Or.inl ⟨by rfl, fun w _ => by go_simp⟩) hS ?_
          try simp only [Act.put, nz]
          refine tkI (i := 2) (v := .pointer (some ⟨gc, 7, none⟩)) rfl (Or.inl ⟨by rfl, fun w _ => by go_simp⟩) hS ?_
          try simp only [Act.put, nz]
          refine tkI (i := 3) (v := .map (some m)) rfl (Or.inl ⟨by rfl, fun w h => by have c : w.cell? ⟨gc, 7, none⟩ = some (.map (some m)) := row_at h.1 7 _ rfl; go_simp⟩) hS ?_
          try simp only [Act.put, nz]
          refine tkI (i := 4) (v := .agg #[.bool u, .int .u16 k]) rfl (yields_cells (by rfl) 31 (.tmp 3) rfl A0 rfl 31 #[.bool u, .int .u16 k] (fun w h => h.2) 2 Try.underlying31 rfl size31 rfl) hS ?_
          try simp only [Act.put, nz]
          refine tkI (i := 5) (v := .int .i64 i) rfl (Or.inl ⟨by rfl, fun w _ => by rfl⟩) hS ?_
          try simp only [Act.put, nz]
          refine wpAnyH_ready (rs := [6]) (by kernel_rfl) (by simp) ?_
          have hmp := HHc.out.cb.map
          refine AllReadyH.cons rfl (fun K hK => step_mapup rfl (.tmp 75) (.tmp 76) (.tmp 77) 115 rfl (.map (some m)) (idv u k) (.int .i64 i) rfl rfl rfl (fun w' => WMap w' m (n + 1) (I1.put u k i) ∧ W11.grownBy w' (some m)) (by
            obtain ⟨w', h1, h2, h3, _⟩ := hmp.store (by have := HNN.out; unfold maxLen; omega) HK.out i
            exact ⟨w', h1, h2, h3⟩) ?_) AllReadyH.nil
          rintro W12 ⟨hm12, hg12⟩
          have O12 : Off (· = m) W11 W12 := Off.of_grown hg12 (fun j q => by cases q; rfl)
          have HHd : Hid (HStep w F gc gd gl gk ak (.slice (some ⟨a, 0, none⟩) (gs.set i f').length cap2) m (n + 1) s1 (gs.set i f') (I1.put u k i) l1 d2 M (N + 4004) W12) := HHc.out.mapd hg12 hm12
          have hS2 : Row W12 gc (ccells gd gl gk (.slice (some ⟨a, 0, none⟩) gs.length cap2) m s1) 117 ∧ Row W12 A0 #[.bool u, .int .u16 k] 31 := ⟨hS.1.off O12 (fun q => HHc.out.cb.ne.gc_m q), hS.2.off O12 (fun q => ne_mapC hS.2 hmp.is q)⟩
          refine hK.out _ _ hS2 fun hS => ?_
          try simp only [Act.put, nz]
          refine wpAnyH_done (by kernel_rfl) ?_ _
          clear hS2 hm12 hg12 O12 hmp HHc
          obtain ⟨x0, hx0⟩ : ∃ x0, s1.ck[i]? = some x0 := ⟨_, List.getElem?_eq_getElem (by rw [HOK1.out.ck, HVF.out.most]; exact HVF.out.at_.1)⟩
          have HX0 : Hid (s1.ck[i]? = some x0) := hx0
          have c2 : W12.cell? ⟨gc, 2, none⟩ = some (.pointer (some ⟨gk, 0, none⟩)) := row_at hS.1 2 _ rfl
          have hcl := Cl.clear_in HHd.out.cb.clk i x0 hx0
          clear hx0 hS
          go_wp2_with (first
            | (go_at_call 79; refine Calls.mono hcl ?_; clear hcl; rintro e W13 ⟨he, hca, ho13⟩; obtain rfl := he))
          refine HPO.out i 0 _ l1 d2 W13 ⟨i, 0, s1, d1, HV.out, Or.inr (Or.inr ⟨rfl, by rw [HPS.out]; exact HE2.out, rfl, rfl, rfl, by rw [HPS.out]; exact HD2.out.symm⟩)⟩ ?_
          have hfin := HHd.out.clock hca ho13
          rw [HI1.out, HGT.out] at hfin
          have hls : loadS s1 i (openF u k (read d1 (placeC s.pages u k)).1) = { s1 with fs := takeF s1.fs i f', ck := s1.ck.set i { x0 with seen := false, cold := false } } := by
            rw [HPS.out, HBLD.out]
            unfold loadS
            rw [HX0.out, HFR.out]
          rw [hls]
          refine HStep.done2 (s := { s1 with ck := s1.ck.set i { x0 with seen := false, cold := false }, hand := s1.hand }) hfin rfl ?_ HF0.out
          exact HOK1.out.take (by rw [HVF.out.most]; exact HVF.out.at_.1) (by rw [HVF.out.len]; exact HVF.out.at_.2) (by rw [← HFR.out]; exact openF_ok u k HK.out BL HBB.out.1 HBB.out.2) (by rw [HFU.out.1, HFU.out.2]; exact HP1.out) HPGE.out (s1.ck.set i { x0 with seen := false, cold := false }) s1.hand (List.length_set ..)
      · have k8 : (E2 != 0) = true := by simpa using hE2
        have HEE : Hid (E2 ≠ 0) := hE2
        clear hE2 hbX hr0
        go_wp2
        exact HPO.out 0 E2 s1 l1 d2 wc ⟨i, 0, s1, d1, HV.out, Or.inr (Or.inl ⟨rfl, by rw [HPS.out, HE2.out]; exact HEE.out, rfl, by rw [HPS.out]; exact HE2.out.symm, rfl, by rw [HPS.out]; exact HD2.out.symm⟩)⟩ hst4
  · have k7 : (E != 0) = true := by simpa using hE
    have HE : Hid (E ≠ 0) := hE
    clear hE hst hA1 hnA r0 ab
    go_wp2
    exact HPO.out 0 E s1 l1 d1 W1 ⟨i, E, s1, d1, HV.out, Or.inl ⟨HE.out, rfl, rfl, rfl, rfl⟩⟩ HST.out
end Go.Proofs.Ytehogiondcpbcaa
