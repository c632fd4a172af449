/-
  Proved here: cache.Fetch.
-/
import Derived.Test.YtehogiondcpbcaaJq28
namespace Go.Proofs.Ytehogiondcpbcaa
open Go.ChangeShapes Go.WideShapes Go.ChangeAt Go.RowKit
set_option linter.unusedVariables false
set_option linter.unusedSimpArgs false
set_option maxRecDepth 20000
theorem Cl.CAt.growM {w : World} {g a : Nat} {fs : List Cl.Fr} {h : Nat} {M M' : Int} (c : Cl.CAt w g a fs h M) (hm : M ≤ M') (hb : M' < 1000000000000) : Cl.CAt w g a fs h M' :=
  { c with pins := fun x hx => ⟨(c.pins x hx).1, by have := (c.pins x hx).2; omega⟩, big := hb }
theorem CStep.growM {w : World} {F : Nat → Prop} {gc gd gl gk ak : Nat} {s : Cs} {l : Lg} {d : Dsk} {M : Int} {N : Nat} {W : World} {M' : Int} (h : CStep w F gc gd gl gk ak s l d M N W) (hm : M ≤ M') (hb : M' < 1000000000000) : CStep w F gc gd gl gk ak s l d M' N W := by
  obtain ⟨o, F', c, k⟩ := h
  obtain ⟨fv, m, n, vl, vs, L, cA, lD, hdis, hF⟩ := c.ex
  exact ⟨o, F', ⟨⟨fv, m, n, vl, vs, L, ⟨cA.row, cA.own, cA.map, cA.clk.growM hm hb, cA.n_lt⟩, lD, hdis, hF⟩, c.ok, c.lt⟩, k⟩
theorem CStep.rowed {w : World} {F : Nat → Prop} {gc gd gl gk ak : Nat} {s : Cs} {l : Lg} {d : Dsk} {M : Int} {N : Nat} {W0 W : World} (hb : Below w.heap.size w W0) (h : CStep W0 F gc gd gl gk ak s l d M N W) (hF : ∀ j, F j → j < w.heap.size) {A1 : Nat} (h1 : w.heap.size ≤ A1) (h2 : A1 < W0.heap.size) (cs : Array Value) : CStep w F gc gd gl gk ak s l d M N (W.setRow A1 cs) := by
  obtain ⟨o, F', c, k⟩ := h
  have O : Off (· = A1) W (W.setRow A1 cs) := Off.of_setRow _ _ _ rfl
  have hn : ¬ F' A1 := fun q => by have := hF _ (k A1 h2 q); omega
  refine ⟨((Off.of_below (F := F) hb).trans o (fun j q => Or.inl q)).trans O (fun j q => Or.inr (by rw [q]; exact h1)), F', c.off O (fun j q e => hn (by rw [← e]; exact q)), fun j hj q => k j (Nat.lt_of_lt_of_le hj hb.size) q⟩
def fetchP (s : Cs) (i : Nat) : Cs := { s with ck := match s.ck[i]? with | some x => s.ck.set i { x with seen := true, pins := x.pins + 1 } | none => s.ck }
def Fetches (s : Cs) (l : Lg) (d : Dsk) (u : Bool) (k : Int) (p : List Int) (E : Int) (s' : Cs) (l' : Lg) (d' : Dsk) : Prop :=
  (isC s u k = false ∧ p = zs 224 ∧ E = 1 ∧ s' = s ∧ l' = l ∧ d' = d) ∨
  (isC s u k = true ∧ ∃ (i : Nat) (f : Fm), posF s.fs u k = some i ∧ s.fs[i]? = some f ∧ p = f.p ∧ E = 0 ∧ s' = fetchP s i ∧ l' = l ∧ d' = d) ∨
  (isC s u k = true ∧ posF s.fs u k = none ∧ ∃ (i1 : Nat) (E1 : Int) (s1 : Cs), Loads s l d u k i1 E1 s1 l' d' ∧
    ((E1 ≠ 0 ∧ p = zs 224 ∧ E = E1 ∧ s' = s1) ∨ (E1 = 0 ∧ E = 0 ∧ s' = fetchP s1 i1 ∧ ∃ f, s1.fs[i1]? = some f ∧ p = f.p)))
def FetchQ (w : World) (F : Nat → Prop) (gc gd gl gk ak : Nat) (s : Cs) (l : Lg) (d : Dsk) (M : Int) (N : Nat) (u : Bool) (k : Int) (e : Ending) (w' : World) : Prop :=
  ∃ (p : List Int) (E : Int) (s' : Cs) (l' : Lg) (d' : Dsk), Fetches s l d u k p E s' l' d' ∧ e = .returned (.tuple #[.agg (bs p), .int .i64 E]) ∧ CStep w F gc gd gl gk ak s' l' d' (M + 1) (N + 4004) w'
theorem Loads.at_ {s : Cs} {l : Lg} {d : Dsk} {u : Bool} {k : Int} {i : Nat} {s' : Cs} {l' : Lg} {d' : Dsk} (h : Loads s l d u k i 0 s' l' d') (ok : s.Ok) (hok : s'.Ok) : ∃ f, s'.fs[i]? = some f ∧ i < s'.ck.length := by
  obtain ⟨i1, E1, s1, d1, hv, ⟨h1, rfl, h2, _⟩ | ⟨rfl, h1, rfl, h2, _⟩ | ⟨rfl, h1, rfl, h2, rfl, _⟩⟩ := h
  · exact absurd h2.symm h1
  · exact absurd h2.symm h1
  · have hf := hv.f ok
    have hl : i < (takeF s1.fs i (openF u k (read d1 (placeC s.pages u k)).1)).length := by
      unfold takeF
      split
      · rename_i e; simp; omega
      · rw [List.length_set]; have := hf.at_.2; have := hf.len; omega
    refine ⟨_, List.getElem?_eq_getElem hl, ?_⟩
    have h3 := hok.ck
    have h4 := hok.few
    have h5 : (takeF s1.fs i (openF u k (read d1 (placeC s.pages u k)).1)).length ≤ s1.most := h4
    rw [h3]
    show i < s1.most
    omega
theorem fm_pay {f : Fm} {j : Nat} {v : Value} (hl : (f.p.map (Value.int .u8)).length = 224) (hj : (f.p.map (Value.int .u8))[j]? = some v) : f.cells[2 + j]? = some v := by
  have h2 : j < 224 := by have := (List.getElem?_eq_some_iff.1 hj).1; rw [hl] at this; exact this
  have hp : f.p.length = 224 := by simpa using hl
  show (([.bool f.un, .int .u16 f.no] : List Value) ++ (f.p.map (Value.int .u8) ++ _))[2 + j]? = some v
  rw [List.getElem?_append_right (by simp), List.getElem?_append_left (by simp [hp]; omega)]
  simpa using hj
set_option maxHeartbeats 4000000 in
theorem fetch_any {w : World} {F : Nat → Prop} {gc gd gl gk ak : Nat} {s : Cs} {l : Lg} {d : Dsk} {M : Int} {N : Nat} (c : CL w F gc gd gl gk ak s l d M N) (u : Bool) (k : Int) (hk : WfU k) (hi : l.Inv) (hfi : l.fin ≤ 18446744073709551615) (hop : d.ops + 4000 < 9223372036854775806) (hopF : (flushR l d).2.2.ops ≤ d.ops + 1000) (hN : N + 40000 < 1000000000000) (hM : M + 1 < 1000000000000) : Calls Try.prog 16 #[.pointer (some ⟨gc, 0, none⟩), idv u k] w fun e w' => FetchQ w F gc gd gl gk ak s l d M N u k e w' := by
  obtain ⟨PP, HPP⟩ : ∃ PP : Ending → World → Prop, Hid (PP = fun e w' => FetchQ w F gc gd gl gk ak s l d M N u k e w') := ⟨_, rfl⟩
  rw [← HPP.out]
  have HPO : Hid (∀ (p : List Int) (E : Int) (s' : Cs) (l' : Lg) (d' : Dsk) (W : World), Fetches s l d u k p E s' l' d' → CStep w F gc gd gl gk ak s' l' d' (M + 1) (N + 4004) W → PP (.returned (.tuple #[.agg (bs p), .int .i64 E])) W) := by
    rw [HPP.out]
    exact fun p E s' l' d' W h1 h2 => ⟨p, E, s', l', d', h1, rfl, h2⟩
  clear HPP
  have hz34 := zero34
  have bu := built34
  obtain ⟨ZP, HZPD⟩ : ∃ ZP, Hid (bs (zs 224) = ZP) := ⟨_, rfl⟩
  have HZP : Hid (ZP.size = 224) := by rw [← HZPD.out, bs_size]; exact zs_length _
  have hzo : ZP.all (·.oneCell') = true := by rw [← HZPD.out]; exact bs_one _
  rw [HZPD.out] at hz34 bu
  have e1 : (w.alloc (.cells #[.bool u, .int .u16 k] 31)).heap.size = w.heap.size + 1 := Array.size_push ..
  have ab0 : Below w.heap.size w (w.alloc (.cells #[.bool u, .int .u16 k] 31)) := (Below.refl _ _).alloc (Nat.le_refl _) _
  have ab : Below w.heap.size w ((w.alloc (.cells #[.bool u, .int .u16 k] 31)).alloc (.cells ZP 34)) := ab0.alloc ab0.size _
  have r0 : Row ((w.alloc (.cells #[.bool u, .int .u16 k] 31)).alloc (.cells ZP 34)) w.heap.size #[.bool u, .int .u16 k] 31 := (Row.new _ _ _).alloc _
  have r1 : Row ((w.alloc (.cells #[.bool u, .int .u16 k] 31)).alloc (.cells ZP 34)) (w.heap.size + 1) ZP 34 := by have := Row.new (w.alloc (.cells #[.bool u, .int .u16 k] 31)) ZP 34; rw [e1] at this; exact this
  have HF0 : Hid (∀ j, F j → j < w.heap.size) := c.lt
  have HK : Hid (WfU k) := hk
  have HMM : Hid (M + 1 < 1000000000000) := hM
  have HOK : Hid s.Ok := c.ok
  have hc0 := c.below ab
  have HCW : Hid (CL ((w.alloc (.cells #[.bool u, .int .u16 k] 31)).alloc (.cells ZP 34)) F gc gd gl gk ak s l d M N) := hc0
  have HLO : Hid (posF s.fs u k = none → isC s u k = true → ∀ (F : Nat → Prop) W, CL W F gc gd gl gk ak s l d M N → Calls Try.prog 46 #[.pointer (some ⟨gc, 0, none⟩), .agg #[.bool u, .int .u16 k]] W fun e w' => LoadQ W F gc gd gl gk ak s l d M N u k e w') := fun h1 h2 F W h => load_any h u k hk h1 h2 hi hfi hop hopF hN
  have HNN : Hid (N + 40000 < 1000000000000) := hN
  have hha : Calls Try.prog 45 #[.pointer (some ⟨gc, 0, none⟩), .agg #[.bool u, .int .u16 k]] ((w.alloc (.cells #[.bool u, .int .u16 k] 31)).alloc (.cells ZP 34)) fun e w' => e = .returned (.bool (isC s u k)) ∧ Below (World.heap ((w.alloc (.cells #[.bool u, .int .u16 k] 31)).alloc (.cells ZP 34))).size ((w.alloc (.cells #[.bool u, .int .u16 k] 31)).alloc (.cells ZP 34)) w' := by
    obtain ⟨fv, m, n, vl, vs, L, cA, _⟩ := hc0.ex
    exact chas_any cA u k hk
  unfold idv
  clear hk hi hfi hop hopF hN hM e1 ab0 c hc0
  go_enter Try.func16, Try.ntmps16
  go_upto_region 1 with fail
  generalize ((w.alloc (.cells #[.bool u, .int .u16 k] 31)).alloc (.cells ZP 34)) = W0 at r0 r1 ab hha HCW ⊢
  obtain ⟨A0, HA0⟩ : ∃ A0, Hid (w.heap.size = A0) := ⟨_, rfl⟩
  obtain ⟨A1, HA1D⟩ : ∃ A1, Hid (w.heap.size + 1 = A1) := ⟨_, rfl⟩
  have HA1 : Hid (w.heap.size ≤ A1 ∧ A1 < W0.heap.size) := ⟨by rw [← HA1D.out]; omega, by rw [← HA1D.out]; exact r1.lt⟩
  have e2 : (w.alloc (.cells #[.bool u, .int .u16 k] 31)).heap.size = w.heap.size + 1 := Array.size_push ..
  rw [HA1D.out] at r1
  try rw [e2]
  try rw [HA1D.out]
  rw [HA0.out] at r0 ⊢
  clear e2
  have HAB : Hid (Below w.heap.size w W0) := ab
  have HFW : Hid (∀ j, F j → j < W0.heap.size) := fun j q => Nat.lt_of_lt_of_le (HF0.out j q) HAB.out.size
  have HST0 : Hid (∀ W, Below W0.heap.size W0 W → CStep W0 F gc gd gl gk ak s l d M (N + 4004) W) := fun W b => (CStep.same HCW.out b).grow (by omega) (by have := HNN.out; omega)
  have HR0 : Hid (∀ W, Below W0.heap.size W0 W → Row W A0 #[.bool u, .int .u16 k] 31) := fun W b => r0.below b r0.lt
  have HR1 : Hid (∀ W, Below W0.heap.size W0 W → Row W A1 ZP 34) := fun W b => r1.below b r1.lt
  have hnA0 : Hid (¬ F A0) := fun q => by have := HF0.out _ q; rw [HA0.out] at this; omega
  have hnA1 : Hid (¬ F A1) := fun q => by have := HF0.out _ q; have := HA1.out.1; omega
  have tl : Hid (1 = 1) := rfl
  have ts : Hid (1 = 1) := rfl
  have tb : Hid (1 = 1) := rfl
  clear r1
  obtain ⟨isb, HIB⟩ : ∃ isb, Hid (isC s u k = isb) := ⟨_, rfl⟩
  rw [HIB.out] at hha
  cases isb with
  | false =>
    clear HLO
    go_wp2_with (first
      | (have hh := tl; clear hh tl; refine load_cells rfl 31 (.tmp 3) rfl A0 rfl 31 #[.bool u, .int .u16 k] r0 2 Try.underlying31 rfl size31 rfl ?_)
      | (have hh := hha; clear hh; go_at_call 45; refine Calls.mono hha ?_; clear hha; rintro e W3 ⟨he, b3⟩; obtain rfl := he; have rA1 := HR1.out W3 b3)
      | (have hh := tb; clear hh tb; refine build_parts rfl 34 #[] rfl [] rfl ZP bu ?_)
      | (have hh := ts; clear hh ts; refine store_cells rfl 34 (.tmp 4) (.tmp 13) rfl A1 ZP rfl rfl 34 _ rA1 224 size34 HZP.out HZP.out hzo ?_))
    refine bodyPost_ret (v := .tuple #[.agg ZP, .int .i64 1]) (ret_two (fn := Try.f16) rfl _ _ A1 34 ZP 224 5 (.int .i64 1) rfl rfl (rA1.set _) Try.underlying34 size34 HZP.out) rfl ?_
    rw [← HZPD.out]
    refine HPO.out _ _ s l d _ (Or.inl ⟨HIB.out, rfl, rfl, rfl, rfl, rfl⟩) ?_
    exact (CStep.rowed HAB.out (HST0.out W3 b3) HF0.out HA1.out.1 HA1.out.2 _).growM (by omega) HMM.out
  | true =>
    cases hp : posF s.fs u k with
    | some i =>
      obtain ⟨f0, hf0, _, _⟩ := posF_some hp
      have HPI : Hid (posF s.fs u k = some i) := hp
      have HFX : Hid (s.fs[i]? = some f0) := hf0
      obtain ⟨x0, hx0⟩ : ∃ x0, s.ck[i]? = some x0 := ⟨_, List.getElem?_eq_getElem (by rw [HOK.out.ck]; exact Nat.lt_of_lt_of_le (posF_lt hp) HOK.out.few)⟩
      have HX0 : Hid (s.ck[i]? = some x0) := hx0
      have HWH : Hid (whereF s.fs u k = some (i : Int)) := where_some hp
      clear hp hf0 hx0 HLO
      obtain ⟨l9, HL9⟩ : ∃ l9, Hid (l = l9) := ⟨_, rfl⟩
      obtain ⟨d9, HD9⟩ : ∃ d9, Hid (d = d9) := ⟨_, rfl⟩
      go_upto_region 3 with (first
        | (have hh := tl; clear hh tl; refine load_cells rfl 31 (.tmp 3) rfl A0 rfl 31 #[.bool u, .int .u16 k] r0 2 Try.underlying31 rfl size31 rfl ?_)
        | (have hh := hha; clear hh; go_at_call 45; refine Calls.mono hha ?_; clear hha; rintro e W3 ⟨he, b3⟩; obtain rfl := he))
      have r03 := HR0.out W3 b3
      have rA1 := HR1.out W3 b3
      have hst3 := HST0.out W3 b3
      obtain ⟨fv, m, n, hnn, hH0, hok0⟩ := HStep.start hst3
      have HLK : Hid (∀ W, WMap W m n (whereF s.fs) → (Instr.lookup 115 (.map (some m)) (.agg #[.bool u, .int .u16 k]) true).run Try.prog W = .ok (.tuple #[.int .i64 i, .bool true]) W) := fun W h => by
        have := h.look_ok (u := u) (k := k) HK.out
        rw [HWH.out] at this
        exact this
      refine wp_region_held_drew (S := fun w' => Row w' gc (ccells gd gl gk fv m s) 117 ∧ Row w' A0 #[.bool u, .int .u16 k] 31 ∧ WMap w' m n (whereF s.fs) ∧ Below W3.heap.size W3 w') (by kernel_rfl) ⟨hH0.cb.row, r03, hH0.cb.map, (Below.refl _ _).drew⟩ fun hS => ?_
      refine tkI (i := 0) (v := .pointer (some ⟨gc, 0, none⟩)) rfl (Or.inl ⟨by rfl, fun w _ => by rfl⟩) hS ?_
      try simp only [Act.put, nz]
      refine tkI (i := 1) (v := .pointer (some ⟨gc, 0, none⟩)) rfl (Or.inl ⟨by rfl, fun w _ => by go_simp⟩) hS ?_
      try simp only [Act.put, nz]
      refine tkI (i := 2) (v := .pointer (some ⟨gc, 7, none⟩)) rfl (Or.inl ⟨by rfl, fun w _ => by go_simp⟩) hS ?_
      try simp only [Act.put, nz]
      refine tkI (i := 3) (v := .map (some m)) rfl (Or.inl ⟨by rfl, fun w h => by have c : w.cell? ⟨gc, 7, none⟩ = some (.map (some m)) := row_at h.1 7 _ rfl; go_simp⟩) hS ?_
      try simp only [Act.put, nz]
      refine tkI (i := 4) (v := .agg #[.bool u, .int .u16 k]) rfl (yields_cells (by rfl) 31 (.tmp 3) rfl A0 rfl 31 #[.bool u, .int .u16 k] (fun w h => h.2.1) 2 Try.underlying31 rfl size31 rfl) hS ?_
      try simp only [Act.put, nz]
      refine tkI (i := 5) (v := .tuple #[.int .i64 i, .bool true]) rfl (Or.inl ⟨by rfl, fun w h => by have c := HLK.out w h.2.2.1; go_simp⟩) hS ?_
      try simp only [Act.put, nz]
      refine tkI (i := 6) (v := .tuple #[.int .i64 i, .bool true]) rfl (Or.inl ⟨by rfl, fun w _ => by rfl⟩) hS ?_
      try simp only [Act.put, nz]
      refine tkI (i := 7) (v := .int .i64 i) rfl (Or.inl ⟨by rfl, fun w _ => by go_simp⟩) hS ?_
      try simp only [Act.put, nz]
      refine tkI (i := 8) (v := .bool true) rfl (Or.inl ⟨by rfl, fun w _ => by go_simp⟩) hS ?_
      try simp only [Act.put, nz]
      refine tkI (i := 9) (v := .int .i64 i) rfl (Or.inl ⟨by rfl, fun w _ => by go_simp⟩) hS ?_
      try simp only [Act.put, nz]
      refine tkI (i := 10) (v := .bool true) rfl (Or.inl ⟨by rfl, fun w _ => by go_simp⟩) hS ?_
      try simp only [Act.put, nz]
      refine wpAnyH_done (by kernel_rfl) ?_ _
      have hbd : Below W3.heap.size W3 W3.drew := (Below.refl _ _).drew
      have hst := hst3.behind hbd
      have hb4 := b3.trans (hbd.mono b3.size)
      have r04 := r03.below hbd r03.lt
      have rA1 := rA1.below hbd rA1.lt
      clear hS HLK hnn hH0 hok0 hst3 r03
      generalize W3.drew = W4 at hst hb4 r04 rA1 ⊢
      rw [HL9.out, HD9.out] at hst
      obtain ⟨fv, m, n, hnn, hH, hok⟩ := HStep.start hst
      have HOK1 : Hid (s.Ok) := hok
      obtain ⟨a, cap, e9⟩ := own_some hH.cb.own (by have := (List.getElem?_eq_some_iff.1 HFX.out).1; omega)
      subst e9
      have hfok := HOK1.out.fs f0 (List.mem_of_getElem? HFX.out)
      have HPL : Hid ((f0.p.map (Value.int .u8)).length = 224) := by show _ = _; rw [List.length_map]; exact hfok.len
      have hpa : (f0.p.map (Value.int .u8)).toArray = bs f0.p := rfl
      have HPS : Hid ((bs f0.p).size = 224) := by rw [bs_size]; exact hfok.len
      have hp1 := bs_one f0.p
      have HHI : Hid (HStep W0 F gc gd gl gk ak (.slice (some ⟨a, 0, none⟩) s.fs.length cap) m n s s.fs (whereF s.fs) l9 d9 M (N + 4004) W4) := hH
      have hil3 : (i : Int) < (s.fs.length : Int) := by have := (List.getElem?_eq_some_iff.1 HFX.out).1; omega
      have HL32 : Hid (s.fs.length ≤ 32) := by have := HOK1.out.few; have := HOK1.out.most.2; show _ ≤ _; omega
      have c2 : W4.cell? ⟨gc, 2, none⟩ = some (.pointer (some ⟨gk, 0, none⟩)) := row_at hH.cb.row 2 _ rfl
      have hto := Cl.touch_in hH.cb.clk i x0 HX0.out
      have HX1 : Hid ((s.ck.set i { x0 with seen := true })[i]? = some { x0 with seen := true }) := by show _ = _; rw [List.getElem?_set_self (List.getElem?_eq_some_iff.1 HX0.out).1]
      have HTY : Hid (∀ Wt, Off (Cl.two gk ak) W4 Wt → Row Wt A1 ZP 34) := fun Wt o => rA1.off o (fun q => by
        rcases q with q | q
        · exact ne_rows rA1 hH.cb.clk.row (by decide) q
        · exact ne_rows rA1 hH.cb.clk.arr (by decide) q)
      clear hnn hok hfok hH hst
      have tl : Hid (1 = 1) := rfl
      have ts : Hid (1 = 1) := rfl
      go_wp2_with (first
        | (have hh := hto; clear hh; go_at_call 47; refine Calls.mono hto ?_; clear hto; rintro e Wt ⟨he, hca, ho⟩; obtain rfl := he; have hH2 := HHI.out.clock hca ho; have c2 : Wt.cell? ⟨gc, 2, none⟩ = some (.pointer (some ⟨gk, 0, none⟩)) := row_at hH2.cb.row 2 _ rfl; have rt := HTY.out Wt ho; have hpi := Cl.pin_in hca i _ HX1.out HMM.out)
        | (have hh := hpi; clear hh; go_at_call 48; refine Calls.mono hpi ?_; clear hpi; rintro e Wq ⟨he, hcb, ho2⟩; obtain rfl := he; have hH3 := hH2.clock hcb ho2; have c6 : Wq.cell? ⟨gc, 6, none⟩ = some (.slice (some ⟨a, 0, none⟩) s.fs.length cap) := row_at hH3.cb.row 6 _ rfl; have rq := HTY.out Wq (ho.trans ho2 (fun j q => Or.inl q)); have hpc : ∀ j v, (f0.p.map (Value.int .u8))[j]? = some v → Wq.cell? ((⟨a, i * 229 + 2, none⟩ : Addr).add j) = some v := fun j v hj => (by rw [Addr.add_mid, Nat.add_assoc]; exact hH3.cb.cells HOK1.out.fs HFX.out (2 + j) v (fm_pay HPL.out hj)))
        | (have hh := tl; clear hh tl; refine wpList_load_any rfl 34 (.tmp 53) rfl ⟨a, i * 229 + 2, none⟩ rfl (f0.p.map (Value.int .u8)) _ hpc Try.underlying34 rfl (by rw [size34, HPL.out]) ?_; rw [hpa])
        | (have hh := ts; clear hh ts; refine store_cells rfl 34 (.tmp 4) (.tmp 54) rfl A1 (bs f0.p) rfl rfl 34 _ rq 224 size34 HZP.out HPS.out hp1 ?_))
      refine bodyPost_ret (v := .tuple #[.agg (bs f0.p), .int .i64 0]) (ret_two (fn := Try.f16) rfl _ _ A1 34 (bs f0.p) 224 5 (.int .i64 0) rfl rfl (rq.set _) Try.underlying34 size34 HPS.out) rfl ?_
      have hfin : CStep W0 F gc gd gl gk ak (fetchP s i) l9 d9 (M + 1) (N + 4004) Wq := by
        have e9 : fetchP s i = { ({ s with ck := s.ck.set i { x0 with seen := true, pins := x0.pins + 1 }, hand := s.hand } : Cs) with fs := s.fs } := by
          unfold fetchP; rw [HX0.out]
        have e8 : (s.ck.set i { x0 with seen := true }).set i { x0 with seen := true, pins := x0.pins + 1 } = s.ck.set i { x0 with seen := true, pins := x0.pins + 1 } := List.set_set ..
        have h9 := hH3
        rw [show (({ x0 with seen := true } : Cl.Fr).pins) = x0.pins from rfl] at h9
        rw [e9]
        refine HStep.done2 (s := { s with ck := s.ck.set i { x0 with seen := true, pins := x0.pins + 1 }, hand := s.hand }) (by rw [← e8]; exact h9) rfl ?_ HFW.out
        exact ⟨HOK1.out.pages, HOK1.out.undo, HOK1.out.most, HOK1.out.fs, HOK1.out.few, HOK1.out.one, by show (s.ck.set i _).length = _; rw [List.length_set]; exact HOK1.out.ck, HOK1.out.page⟩
      exact HPO.out _ _ _ _ _ _ (Or.inr (Or.inl ⟨HIB.out, i, f0, HPI.out, HFX.out, rfl, rfl, rfl, HL9.out.symm, HD9.out.symm⟩)) (CStep.rowed HAB.out hfin HF0.out HA1.out.1 HA1.out.2 _)
    | none =>
      have HPI : Hid (posF s.fs u k = none) := hp
      have HWH : Hid (whereF s.fs u k = none) := where_none hp
      have HLO2 : Hid (∀ (F : Nat → Prop) W, CL W F gc gd gl gk ak s l d M N → Calls Try.prog 46 #[.pointer (some ⟨gc, 0, none⟩), .agg #[.bool u, .int .u16 k]] W fun e w' => LoadQ W F gc gd gl gk ak s l d M N u k e w') := HLO.out hp HIB.out
      have HSN : Hid (∀ W, Below W0.heap.size W0 W → CStep W0 F gc gd gl gk ak s l d M N W) := fun W b => CStep.same HCW.out b
      clear hp HLO
      have HLO := HLO2
      clear HLO2
      go_upto_region 3 with (first
        | (have hh := tl; clear hh tl; refine load_cells rfl 31 (.tmp 3) rfl A0 rfl 31 #[.bool u, .int .u16 k] r0 2 Try.underlying31 rfl size31 rfl ?_)
        | (have hh := hha; clear hh; go_at_call 45; refine Calls.mono hha ?_; clear hha; rintro e W3 ⟨he, b3⟩; obtain rfl := he))
      have r03 := HR0.out W3 b3
      have rA1 := HR1.out W3 b3
      have hst3 := HST0.out W3 b3
      obtain ⟨fv, m, n, hnn, hH0, hok0⟩ := HStep.start hst3
      have HLK : Hid (∀ W, WMap W m n (whereF s.fs) → (Instr.lookup 115 (.map (some m)) (.agg #[.bool u, .int .u16 k]) true).run Try.prog W = .ok (.tuple #[.int .i64 0, .bool false]) W) := fun W h => by
        have := h.look_ok (u := u) (k := k) HK.out
        rw [HWH.out] at this
        exact this
      refine wp_region_held_drew (S := fun w' => Row w' gc (ccells gd gl gk fv m s) 117 ∧ Row w' A0 #[.bool u, .int .u16 k] 31 ∧ WMap w' m n (whereF s.fs) ∧ Below W3.heap.size W3 w') (by kernel_rfl) ⟨hH0.cb.row, r03, hH0.cb.map, (Below.refl _ _).drew⟩ fun hS => ?_
      refine tkI (i := 0) (v := .pointer (some ⟨gc, 0, none⟩)) rfl (Or.inl ⟨by rfl, fun w _ => by rfl⟩) hS ?_
      try simp only [Act.put, nz]
      refine tkI (i := 1) (v := .pointer (some ⟨gc, 0, none⟩)) rfl (Or.inl ⟨by rfl, fun w _ => by go_simp⟩) hS ?_
      try simp only [Act.put, nz]
      refine tkI (i := 2) (v := .pointer (some ⟨gc, 7, none⟩)) rfl (Or.inl ⟨by rfl, fun w _ => by go_simp⟩) hS ?_
      try simp only [Act.put, nz]
      refine tkI (i := 3) (v := .map (some m)) rfl (Or.inl ⟨by rfl, fun w h => by have c : w.cell? ⟨gc, 7, none⟩ = some (.map (some m)) := row_at h.1 7 _ rfl; go_simp⟩) hS ?_
      try simp only [Act.put, nz]
      refine tkI (i := 4) (v := .agg #[.bool u, .int .u16 k]) rfl (yields_cells (by rfl) 31 (.tmp 3) rfl A0 rfl 31 #[.bool u, .int .u16 k] (fun w h => h.2.1) 2 Try.underlying31 rfl size31 rfl) hS ?_
      try simp only [Act.put, nz]
      refine tkI (i := 5) (v := .tuple #[.int .i64 0, .bool false]) rfl (Or.inl ⟨by rfl, fun w h => by have c := HLK.out w h.2.2.1; go_simp⟩) hS ?_
      try simp only [Act.put, nz]
      refine tkI (i := 6) (v := .tuple #[.int .i64 0, .bool false]) rfl (Or.inl ⟨by rfl, fun w _ => by rfl⟩) hS ?_
      try simp only [Act.put, nz]
      refine tkI (i := 7) (v := .int .i64 0) rfl (Or.inl ⟨by rfl, fun w _ => by go_simp⟩) hS ?_
      try simp only [Act.put, nz]
      refine tkI (i := 8) (v := .bool false) rfl (Or.inl ⟨by rfl, fun w _ => by go_simp⟩) hS ?_
      try simp only [Act.put, nz]
      refine tkI (i := 9) (v := .int .i64 0) rfl (Or.inl ⟨by rfl, fun w _ => by go_simp⟩) hS ?_
      try simp only [Act.put, nz]
      refine tkI (i := 10) (v := .bool false) rfl (Or.inl ⟨by rfl, fun w _ => by go_simp⟩) hS ?_
      try simp only [Act.put, nz]
      refine wpAnyH_done (by kernel_rfl) ?_ _
      have hbd : Below W3.heap.size W3 W3.drew := (Below.refl _ _).drew
      have hst := hst3.behind hbd
      have hb4 := b3.trans (hbd.mono b3.size)
      have r04 := r03.below hbd r03.lt
      have rA1 := rA1.below hbd rA1.lt
      clear hS HLK hnn hH0 hok0 hst3 r03
      generalize W3.drew = W4 at hst hb4 r04 rA1 ⊢
      have hlo : ∃ F4, (∀ k, k < W0.heap.size → F4 k → F k) ∧ Off F W0 W4 ∧ Calls Try.prog 46 #[.pointer (some ⟨gc, 0, none⟩), .agg #[.bool u, .int .u16 k]] W4 fun e w' => LoadQ W4 F4 gc gd gl gk ak s l d M N u k e w' := by
        obtain ⟨o, F4, c4, k4⟩ := HSN.out W4 hb4
        exact ⟨F4, k4, o, HLO.out F4 W4 c4⟩
      clear hst
      obtain ⟨F4, k4, o4, hlo⟩ := hlo
      have HK4 : Hid ((∀ k, k < W0.heap.size → F4 k → F k) ∧ Off F W0 W4) := ⟨k4, o4⟩
      have rA1k := rA1
      clear k4 o4 hb4 rA1
      have tl : Hid (1 = 1) := rfl
      go_upto_region 7 with (first
        | (have hh := tl; clear hh tl; refine load_cells rfl 31 (.tmp 3) rfl A0 rfl 31 #[.bool u, .int .u16 k] r04 2 Try.underlying31 rfl size31 rfl ?_)
        | (have hh := hlo; clear hh; go_at_call 46; refine Calls.mono hlo ?_; clear hlo; rintro e W5 ⟨i, E, s1, l9, d9, hL, he, hst5⟩; obtain rfl := he))
      have HL : Hid (Loads s l d u k i E s1 l9 d9) := hL
      have hst : CStep W0 F gc gd gl gk ak s1 l9 d9 M (N + 4004) W5 := CStep.behind2 HK4.out.2 HK4.out.1 hst5
      have rA1 := rA1k.off hst5.1 (fun q => hnA1.out (HK4.out.1 A1 HA1.out.2 q))
      clear hL hst5 r04 rA1k
      by_cases hE : E = 0
      · subst hE
        have hat : ∃ f, s1.fs[i]? = some f ∧ i < s1.ck.length := by
          obtain ⟨_, F9, c9, _⟩ := hst
          exact HL.out.at_ HOK.out c9.ok
        obtain ⟨f0, hf0, hck⟩ := hat
        have HFX : Hid (s1.fs[i]? = some f0) := hf0
        obtain ⟨x0, hx0⟩ : ∃ x0, s1.ck[i]? = some x0 := ⟨_, List.getElem?_eq_getElem hck⟩
        have HX0 : Hid (s1.ck[i]? = some x0) := hx0
        clear hf0 hck hx0
        obtain ⟨fv, m, n, hnn, hH, hok⟩ := HStep.start hst
        have HOK1 : Hid (s1.Ok) := hok
        obtain ⟨a, cap, e9⟩ := own_some hH.cb.own (by have := (List.getElem?_eq_some_iff.1 HFX.out).1; omega)
        subst e9
        have hfok := HOK1.out.fs f0 (List.mem_of_getElem? HFX.out)
        have HPL : Hid ((f0.p.map (Value.int .u8)).length = 224) := by show _ = _; rw [List.length_map]; exact hfok.len
        have hpa : (f0.p.map (Value.int .u8)).toArray = bs f0.p := rfl
        have HPS : Hid ((bs f0.p).size = 224) := by rw [bs_size]; exact hfok.len
        have hp1 := bs_one f0.p
        have HHI : Hid (HStep W0 F gc gd gl gk ak (.slice (some ⟨a, 0, none⟩) s1.fs.length cap) m n s1 s1.fs (whereF s1.fs) l9 d9 M (N + 4004) W5) := hH
        have hil3 : (i : Int) < (s1.fs.length : Int) := by have := (List.getElem?_eq_some_iff.1 HFX.out).1; omega
        have HL32 : Hid (s1.fs.length ≤ 32) := by have := HOK1.out.few; have := HOK1.out.most.2; show _ ≤ _; omega
        have c2 : W5.cell? ⟨gc, 2, none⟩ = some (.pointer (some ⟨gk, 0, none⟩)) := row_at hH.cb.row 2 _ rfl
        have hto := Cl.touch_in hH.cb.clk i x0 HX0.out
        have HX1 : Hid ((s1.ck.set i { x0 with seen := true })[i]? = some { x0 with seen := true }) := by show _ = _; rw [List.getElem?_set_self (List.getElem?_eq_some_iff.1 HX0.out).1]
        have HTY : Hid (∀ Wt, Off (Cl.two gk ak) W5 Wt → Row Wt A1 ZP 34) := fun Wt o => rA1.off o (fun q => by
          rcases q with q | q
          · exact ne_rows rA1 hH.cb.clk.row (by decide) q
          · exact ne_rows rA1 hH.cb.clk.arr (by decide) q)
        clear hnn hok hfok hH hst
        have tl : Hid (1 = 1) := rfl
        have ts : Hid (1 = 1) := rfl
        go_wp2_with (first
          | (have hh := hto; clear hh; go_at_call 47; refine Calls.mono hto ?_; clear hto; rintro e Wt ⟨he, hca, ho⟩; obtain rfl := he; have hH2 := HHI.out.clock hca ho; have c2 : Wt.cell? ⟨gc, 2, none⟩ = some (.pointer (some ⟨gk, 0, none⟩)) := row_at hH2.cb.row 2 _ rfl; have rt := HTY.out Wt ho; have hpi := Cl.pin_in hca i _ HX1.out HMM.out)
          | (have hh := hpi; clear hh; go_at_call 48; refine Calls.mono hpi ?_; clear hpi; rintro e Wq ⟨he, hcb, ho2⟩; obtain rfl := he; have hH3 := hH2.clock hcb ho2; have c6 : Wq.cell? ⟨gc, 6, none⟩ = some (.slice (some ⟨a, 0, none⟩) s1.fs.length cap) := row_at hH3.cb.row 6 _ rfl; have rq := HTY.out Wq (ho.trans ho2 (fun j q => Or.inl q)); have hpc : ∀ j v, (f0.p.map (Value.int .u8))[j]? = some v → Wq.cell? ((⟨a, i * 229 + 2, none⟩ : Addr).add j) = some v := fun j v hj => (by rw [Addr.add_mid, Nat.add_assoc]; exact hH3.cb.cells HOK1.out.fs HFX.out (2 + j) v (fm_pay HPL.out hj)))
          | (have hh := tl; clear hh tl; refine wpList_load_any rfl 34 (.tmp 53) rfl ⟨a, i * 229 + 2, none⟩ rfl (f0.p.map (Value.int .u8)) _ hpc Try.underlying34 rfl (by rw [size34, HPL.out]) ?_; rw [hpa])
          | (have hh := ts; clear hh ts; refine store_cells rfl 34 (.tmp 4) (.tmp 54) rfl A1 (bs f0.p) rfl rfl 34 _ rq 224 size34 HZP.out HPS.out hp1 ?_))
        refine bodyPost_ret (v := .tuple #[.agg (bs f0.p), .int .i64 0]) (ret_two (fn := Try.f16) rfl _ _ A1 34 (bs f0.p) 224 5 (.int .i64 0) rfl rfl (rq.set _) Try.underlying34 size34 HPS.out) rfl ?_
        have hfin : CStep W0 F gc gd gl gk ak (fetchP s1 i) l9 d9 (M + 1) (N + 4004) Wq := by
          have e9 : fetchP s1 i = { ({ s1 with ck := s1.ck.set i { x0 with seen := true, pins := x0.pins + 1 }, hand := s1.hand } : Cs) with fs := s1.fs } := by
            unfold fetchP; rw [HX0.out]
          have e8 : (s1.ck.set i { x0 with seen := true }).set i { x0 with seen := true, pins := x0.pins + 1 } = s1.ck.set i { x0 with seen := true, pins := x0.pins + 1 } := List.set_set ..
          have h9 := hH3
          rw [show (({ x0 with seen := true } : Cl.Fr).pins) = x0.pins from rfl] at h9
          rw [e9]
          refine HStep.done2 (s := { s1 with ck := s1.ck.set i { x0 with seen := true, pins := x0.pins + 1 }, hand := s1.hand }) (by rw [← e8]; exact h9) rfl ?_ HFW.out
          exact ⟨HOK1.out.pages, HOK1.out.undo, HOK1.out.most, HOK1.out.fs, HOK1.out.few, HOK1.out.one, by show (s1.ck.set i _).length = _; rw [List.length_set]; exact HOK1.out.ck, HOK1.out.page⟩
        exact HPO.out _ _ _ _ _ _ (Or.inr (Or.inr ⟨HIB.out, HPI.out, i, 0, s1, HL.out, Or.inr ⟨rfl, rfl, rfl, f0, HFX.out, rfl⟩⟩)) (CStep.rowed HAB.out hfin HF0.out HA1.out.1 HA1.out.2 _)
      · have k7 : (E != 0) = true := by simpa using hE
        have HE : Hid (E ≠ 0) := hE
        clear hE
        go_wp2_with (first
          | (have hh := tb; clear hh tb; refine build_parts rfl 34 #[] rfl [] rfl ZP bu ?_)
          | (have hh := ts; clear hh ts; refine store_cells rfl 34 (.tmp 4) (.tmp 33) rfl A1 ZP rfl rfl 34 _ rA1 224 size34 HZP.out HZP.out hzo ?_))
        refine bodyPost_ret (v := .tuple #[.agg ZP, .int .i64 E]) (ret_two (fn := Try.f16) rfl _ _ A1 34 ZP 224 5 (.int .i64 E) rfl rfl (rA1.set _) Try.underlying34 size34 HZP.out) rfl ?_
        rw [← HZPD.out]
        refine HPO.out _ _ s1 l9 d9 _ (Or.inr (Or.inr ⟨HIB.out, HPI.out, i, E, s1, HL.out, Or.inl ⟨HE.out, rfl, rfl, rfl⟩⟩)) ?_
        exact (CStep.rowed HAB.out hst HF0.out HA1.out.1 HA1.out.2 _).growM (by omega) HMM.out
end Go.Proofs.Ytehogiondcpbcaa
