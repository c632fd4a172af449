/-
  Proved here: cache.vacate: a frame that is free, or made free. Proved here: cache.Unpin, cache.Cold. Plain facts on payloads: what stands at each place; what was put is read again; unlike data pages have unlike payloads. Proved here: two data pages are alike just if all they hold is; page.Blank and page.Right of data pages; the statements' fixed run (awake).
-/
import Derived.Test.YtehogiondcpbcaaJq21
import Derived.Test.YtehogiondcpbcaaJq20
namespace Go.Proofs.Ytehogiondcpbcaa
open Go.ChangeShapes Go.WideShapes Go.ChangeAt Go.RowKit
set_option linter.unusedVariables false
set_option linter.unusedSimpArgs false
set_option maxRecDepth 20000
theorem wb_clean {w : World} {F : Nat → Prop} {gc gd gl gk ak : Nat} {s : Cs} {l : Lg} {d : Dsk} {M : Int} {N : Nat} (c : CL w F gc gd gl gk ak s l d M N) (i : Nat) (f : Fm) (hf : s.fs[i]? = some f) (hd : f.dirty = false) : Calls Try.prog 59 #[.pointer (some ⟨gc, 0, none⟩), .int .i64 i] w fun e w' => e = .returned (.int .i64 0) ∧ w' = w := by
  obtain ⟨fv, m, n, vl, vs, L, cA, lD, hdis, hF⟩ := c.ex
  have ok := c.ok
  obtain ⟨oa, cap, rfl, hcap, hel⟩ := cA.form ok.fs
  obtain ⟨a, rfl, hcell⟩ := hel i f hf
  have fok := ok.fs f (List.mem_of_getElem? hf)
  have hfew : s.fs.length ≤ 32 := by have := ok.few; have := ok.most.2; omega
  have hil := (List.getElem?_eq_some_iff.1 hf).1
  have hil2 : (i : Int) < (s.fs.length : Int) := by omega
  have c227 : w.cell? ⟨a, i * 229 + 227, none⟩ = some (.bool false) := hcell 227 (.bool false) (by rw [f.cells_pre, List.getElem?_append_right (by rw [Fm.pre_length fok.len]; omega), Fm.pre_length fok.len, ← hd]; rfl)
  have c6 : w.cell? ⟨gc, 6, none⟩ = some (.slice (some ⟨a, 0, none⟩) s.fs.length cap) := row_at cA.row 6 _ rfl
  clear hcell hel cA lD hdis hF
  go_enter Try.func59, Try.ntmps59
  go_wp2
  go_ret
  exact ⟨rfl, rfl⟩
theorem CL.clock {w : World} {F : Nat → Prop} {gc gd gl gk ak : Nat} {s : Cs} {l : Lg} {d : Dsk} {M : Int} {N : Nat} (c : CL w F gc gd gl gk ak s l d M N) {W : World} {ck' : List Cl.Fr} {h' : Nat} {M' : Int} (hc : Cl.CAt W gk ak ck' h' M') (ho : Off (Cl.two gk ak) w W) (hl : ck'.length = s.ck.length) : CStep w F gc gd gl gk ak { s with ck := ck', hand := h' } l d M' N W := by
  obtain ⟨fv, m, n, vl, vs, L, cA, lD, hdis, hF⟩ := c.ex
  have hn : ∀ j, (j = gc ∨ fv.ownBlock = some j ∨ j = m) → ¬ Cl.two gk ak j := fun j q q2 => by
    have k1 := cA.clk.row
    have k2 := cA.clk.arr
    rcases q with rfl | q | rfl
    · rcases q2 with e | e
      · exact ne_cellsC cA.row k1 (by decide) e
      · exact ne_cellsC cA.row k2 (by decide) e
    · rcases cA.own.2 with ⟨e, _⟩ | ⟨g, cap', cur, e, _, hcc, _⟩
      · rw [e] at q; cases q
      · rw [e] at q; cases q
        rcases q2 with e2 | e2
        · exact ne_cellsC hcc k1 (by decide) e2
        · exact ne_cellsC hcc k2 (by decide) e2
    · rcases q2 with e | e
      · exact ne_mapC k1 cA.map.is e.symm
      · exact ne_mapC k2 cA.map.is e.symm
  have oF : Off F w W := ho.mono fun j q => Or.inl (hF j (Or.inr (Or.inr (Or.inr (Or.inr q)))))
  refine ⟨oF, F, ⟨⟨fv, m, n, vl, vs, L, ⟨cA.row.off ho (hn gc (Or.inl rfl)), ownsRow_off cA.own ho (fun k q => hn k (Or.inr (Or.inl q))), cA.map.off ho (hn m (Or.inr (Or.inr rfl))), hc, cA.n_lt⟩, lD.off ho (fun j q q2 => hdis j q (Or.inr (Or.inr (Or.inr q2)))), hdis, hF⟩, ⟨c.ok.pages, c.ok.undo, c.ok.most, c.ok.fs, c.ok.few, c.ok.one, by show ck'.length = _; rw [hl]; exact c.ok.ck, c.ok.page⟩, fun j q => Nat.lt_of_lt_of_le (c.lt j q) oF.size⟩, fun k _ q => q⟩
theorem CStep.behind2 {w : World} {F : Nat → Prop} {gc gd gl gk ak : Nat} {s : Cs} {l : Lg} {d : Dsk} {M : Int} {N : Nat} {W W2 : World} (o : Off F w W) {F1 : Nat → Prop} (hF1 : ∀ k, k < w.heap.size → F1 k → F k) (h : CStep W F1 gc gd gl gk ak s l d M N W2) : CStep w F gc gd gl gk ak s l d M N W2 := by
  obtain ⟨o2, F2, c2, k2⟩ := h
  refine ⟨o.trans o2 (fun j q => ?_), F2, c2, fun j hj q => hF1 j hj (k2 j (Nat.lt_of_lt_of_le hj o.size) q)⟩
  rcases Nat.lt_or_ge j w.heap.size with y | y
  · exact Or.inl (hF1 j y q)
  · exact Or.inr y
theorem CStep.ahead {w : World} {F : Nat → Prop} {gc gd gl gk ak : Nat} {s : Cs} {l : Lg} {d : Dsk} {M : Int} {N : Nat} {W W2 : World} (hb : Below w.heap.size w W) (h : CStep W F gc gd gl gk ak s l d M N W2) : CStep w F gc gd gl gk ak s l d M N W2 := by
  obtain ⟨o, F', c, k⟩ := h
  exact ⟨(Off.of_below (F := F) hb).trans o (fun j q => Or.inl q), F', c, fun j hj q => k j (Nat.lt_of_lt_of_le hj hb.size) q⟩
theorem Vict_lt {R : List Cl.Fr} {v : Nat} {S : List Cl.Fr} (h : Cl.Vict R v true S) : ∃ x ∈ R, v = x.no := by
  rcases h with ⟨A, x, B, e, _, _, hv, _⟩ | ⟨_, _, hv, _⟩ | ⟨_, _, e, _⟩
  · exact ⟨x, by rw [e]; simp, hv⟩
  · have : ∀ {R : List Cl.Fr} {v : Nat} {S : List Cl.Fr}, Cl.Vic R v S → ∃ x ∈ R, v = x.no := by
      intro R v S q
      induction q with
      | hit x T _ => exact ⟨x, List.mem_cons_self .., rfl⟩
      | pass x T v S _ _ ih =>
        obtain ⟨y, hy, e⟩ := ih
        rcases List.mem_append.1 hy with m | m
        · exact ⟨y, List.mem_cons_of_mem _ m, e⟩
        · simp at m; subst m
          exact ⟨x, List.mem_cons_self .., by rw [e, Cl.pass_no]⟩
    exact this hv
  · cases e
def Vacd (w : World) (F : Nat → Prop) (gc gd gl gk ak : Nat) (s : Cs) (l : Lg) (d : Dsk) (M : Int) (N : Nat) (e : Ending) (w' : World) : Prop :=
  (s.fs.length < s.most ∧ e = .returned (.tuple #[.int .i64 s.fs.length, .int .i64 0]) ∧ CStep w F gc gd gl gk ak s l d M N w') ∨
  (s.fs.length = s.most ∧ ∃ (v : Nat) (b : Bool) (ck' : List Cl.Fr) (h' : Nat), Cl.Vict (Cl.ring s.ck s.hand) v b (Cl.ring ck' h') ∧ Cl.Same s.ck ck' ∧
    ((b = false ∧ e = .returned (.tuple #[.int .i64 0, .int .i64 6]) ∧ CStep w F gc gd gl gk ak { s with ck := ck', hand := h' } l d M N w') ∨
     (b = true ∧ ∃ f, s.fs[v]? = some f ∧ ((f.dirty = false ∧ e = .returned (.tuple #[.int .i64 v, .int .i64 0]) ∧ CStep w F gc gd gl gk ak { s with ck := ck', hand := h' } l d M N w') ∨
       (f.dirty = true ∧ e = .returned (.tuple #[.int .i64 v, .int .i64 (wbR s l d f).1]) ∧ CStep w F gc gd gl gk ak (if (wbR s l d f).1 = 0 then cleanF { s with ck := ck', hand := h' } v f else { s with ck := ck', hand := h' }) (wbR s l d f).2.1 (wbR s l d f).2.2 M (N + 4004) w')))))
theorem wbR_ck (s : Cs) (l : Lg) (d : Dsk) (f : Fm) (ck' : List Cl.Fr) (h' : Nat) : wbR { s with ck := ck', hand := h' } l d f = wbR s l d f := rfl
set_option maxHeartbeats 2000000 in
theorem vacate_any {w : World} {F : Nat → Prop} {gc gd gl gk ak : Nat} {s : Cs} {l : Lg} {d : Dsk} {M : Int} {N : Nat} (c : CL w F gc gd gl gk ak s l d M N) (hi : l.Inv) (hfi : l.fin ≤ 18446744073709551615) (hop : d.ops + 2000 < 9223372036854775806) (hopF : (flushR l d).2.2.ops ≤ d.ops + 1000) (hN : N + 20000 < 1000000000000) :
    Calls Try.prog 76 #[.pointer (some ⟨gc, 0, none⟩)] w fun e w' => Vacd w F gc gd gl gk ak s l d M N e w' := by
  have HPO : Hid (∀ e w', ((s.fs.length < s.most ∧ e = .returned (.tuple #[.int .i64 s.fs.length, .int .i64 0]) ∧ CStep w F gc gd gl gk ak s l d M N w') ∨ (s.fs.length = s.most ∧ ∃ (v : Nat) (b : Bool) (ck' : List Cl.Fr) (h' : Nat), Cl.Vict (Cl.ring s.ck s.hand) v b (Cl.ring ck' h') ∧ Cl.Same s.ck ck' ∧
    ((b = false ∧ e = .returned (.tuple #[.int .i64 0, .int .i64 6]) ∧ CStep w F gc gd gl gk ak { s with ck := ck', hand := h' } l d M N w') ∨
     (b = true ∧ ∃ f, s.fs[v]? = some f ∧ ((f.dirty = false ∧ e = .returned (.tuple #[.int .i64 v, .int .i64 0]) ∧ CStep w F gc gd gl gk ak { s with ck := ck', hand := h' } l d M N w') ∨
       (f.dirty = true ∧ e = .returned (.tuple #[.int .i64 v, .int .i64 (wbR s l d f).1]) ∧ CStep w F gc gd gl gk ak (if (wbR s l d f).1 = 0 then cleanF { s with ck := ck', hand := h' } v f else { s with ck := ck', hand := h' }) (wbR s l d f).2.1 (wbR s l d f).2.2 M (N + 4004) w')))))) → Vacd w F gc gd gl gk ak s l d M N e w') := fun e w' q => q
  obtain ⟨PP, HPP⟩ : ∃ PP : Ending → World → Prop, Hid (PP = fun e w' => Vacd w F gc gd gl gk ak s l d M N e w') := ⟨_, rfl⟩
  have HC : Hid (CL w F gc gd gl gk ak s l d M N) := c
  obtain ⟨fv, m, n, vl, vs, L, cA, lD, hdis, hF⟩ := c.ex
  have ok := c.ok
  obtain ⟨oa, cap, rfl, hcap, hel⟩ := cA.form ok.fs
  have HCK : Hid (s.ck.length = s.most) := ok.ck
  have hfew := ok.few
  have c2 : w.cell? ⟨gc, 2, none⟩ = some (.pointer (some ⟨gk, 0, none⟩)) := row_at cA.row 2 _ rfl
  have c6 : w.cell? ⟨gc, 6, none⟩ = some (.slice oa s.fs.length cap) := row_at cA.row 6 _ rfl
  have hvi := Cl.victim_any (cA.clk)
  have HNO : Hid (∀ x ∈ s.ck, x.no < s.ck.length) := fun x hx => by
    obtain ⟨j, hj, e⟩ := List.mem_iff_getElem.1 hx
    rw [cA.clk.nos j x (by rw [← e]; exact List.getElem?_eq_getElem hj)]; exact hj
  have HRW : Hid (Row w gc #[.pointer (some ⟨gd, 0, none⟩), .iface 24 (.pointer (some ⟨gl, 0, none⟩)), .pointer (some ⟨gk, 0, none⟩), .int .i64 s.pages, .int .i64 s.undo, .int .i64 s.most, .slice oa s.fs.length cap, .map (some m)] 117) := cA.row
  have hsm : s.most ≤ 32 := ok.most.2
  rw [← HPP.out]
  clear hel lD hdis hF cA
  by_cases hlt : (s.fs.length : Int) < (s.most : Int)
  · have kk : (s.fs.length : Int) < (s.most : Int) := hlt
    go_enter Try.func76, Try.ntmps76
    go_upto_region 1 with fail
    refine wp_region_held_drew (S := fun W => Row W gc #[.pointer (some ⟨gd, 0, none⟩), .iface 24 (.pointer (some ⟨gl, 0, none⟩)), .pointer (some ⟨gk, 0, none⟩), .int .i64 s.pages, .int .i64 s.undo, .int .i64 s.most, .slice oa s.fs.length cap, .map (some m)] 117 ∧ Below w.heap.size w W) (by kernel_rfl) ⟨HRW.out, (Below.refl _ _).drew⟩ fun hS => ?_
    clear c2 c6
    refine tkI (i := 0) (v := .pointer (some ⟨gc, 0, none⟩)) rfl (by kernel_rfl) (Or.inl ⟨by rfl, fun w _ => by rfl⟩) hS ?_
    try simp only [Act.put, nz]
    refine tkI (i := 1) (v := .pointer (some ⟨gc, 0, none⟩)) rfl (by kernel_rfl) (Or.inl ⟨by rfl, fun w _ => by go_simp⟩) hS ?_
    try simp only [Act.put, nz]
    refine tkI (i := 2) (v := .pointer (some ⟨gc, 6, none⟩)) rfl (by kernel_rfl) (Or.inl ⟨by rfl, fun w _ => by go_simp⟩) hS ?_
    try simp only [Act.put, nz]
    refine tkI (i := 3) (v := .slice oa s.fs.length cap) rfl (by kernel_rfl) (Or.inl ⟨by rfl, fun w h => by have c := row_at h.1 6 _ rfl; go_simp⟩) hS ?_
    try simp only [Act.put, nz]
    refine tkI (i := 4) (v := .int .i64 s.fs.length) rfl (by kernel_rfl) (Or.inl ⟨by rfl, fun w _ => by go_simp⟩) hS ?_
    try simp only [Act.put, nz]
    refine tkI (i := 5) (v := .pointer (some ⟨gc, 0, none⟩)) rfl (by kernel_rfl) (Or.inl ⟨by rfl, fun w _ => by rfl⟩) hS ?_
    try simp only [Act.put, nz]
    refine tkI (i := 6) (v := .pointer (some ⟨gc, 0, none⟩)) rfl (by kernel_rfl) (Or.inl ⟨by rfl, fun w _ => by go_simp⟩) hS ?_
    try simp only [Act.put, nz]
    refine tkI (i := 7) (v := .pointer (some ⟨gc, 5, none⟩)) rfl (by kernel_rfl) (Or.inl ⟨by rfl, fun w _ => by go_simp⟩) hS ?_
    try simp only [Act.put, nz]
    refine tkI (i := 8) (v := .int .i64 s.most) rfl (by kernel_rfl) (Or.inl ⟨by rfl, fun w h => by have c := row_at h.1 5 _ rfl; go_simp⟩) hS ?_
    try simp only [Act.put, nz]
    refine tkI (i := 9) (v := .bool true) rfl (by kernel_rfl) (Or.inl ⟨by rfl, fun w _ => by go_simp⟩) hS ?_
    try simp only [Act.put, nz]
    refine wpAnyH_done (by kernel_rfl) ?_ _
    have c6 : w.drew.cell? ⟨gc, 6, none⟩ = some (.slice oa s.fs.length cap) := row_at hS.1 6 _ rfl
    have hb : Below w.heap.size w w.drew := hS.2
    generalize w.drew = W at c6 hb ⊢
    clear hS
    go_wp2
    rw [HPP.out]
    exact HPO.out _ _ (Or.inl ⟨by omega, rfl, CStep.same HC.out hb⟩)
  · have kk : ¬ (s.fs.length : Int) < (s.most : Int) := hlt
    have hEQ : s.fs.length = s.most := by omega
    go_enter Try.func76, Try.ntmps76
    go_upto_region 1 with fail
    refine wp_region_held_drew (S := fun W => Row W gc #[.pointer (some ⟨gd, 0, none⟩), .iface 24 (.pointer (some ⟨gl, 0, none⟩)), .pointer (some ⟨gk, 0, none⟩), .int .i64 s.pages, .int .i64 s.undo, .int .i64 s.most, .slice oa s.fs.length cap, .map (some m)] 117 ∧ Below w.heap.size w W) (by kernel_rfl) ⟨HRW.out, (Below.refl _ _).drew⟩ fun hS => ?_
    clear c2 c6 hvi
    refine tkI (i := 0) (v := .pointer (some ⟨gc, 0, none⟩)) rfl (by kernel_rfl) (Or.inl ⟨by rfl, fun w _ => by rfl⟩) hS ?_
    try simp only [Act.put, nz]
    refine tkI (i := 1) (v := .pointer (some ⟨gc, 0, none⟩)) rfl (by kernel_rfl) (Or.inl ⟨by rfl, fun w _ => by go_simp⟩) hS ?_
    try simp only [Act.put, nz]
    refine tkI (i := 2) (v := .pointer (some ⟨gc, 6, none⟩)) rfl (by kernel_rfl) (Or.inl ⟨by rfl, fun w _ => by go_simp⟩) hS ?_
    try simp only [Act.put, nz]
    refine tkI (i := 3) (v := .slice oa s.fs.length cap) rfl (by kernel_rfl) (Or.inl ⟨by rfl, fun w h => by have c := row_at h.1 6 _ rfl; go_simp⟩) hS ?_
    try simp only [Act.put, nz]
    refine tkI (i := 4) (v := .int .i64 s.fs.length) rfl (by kernel_rfl) (Or.inl ⟨by rfl, fun w _ => by go_simp⟩) hS ?_
    try simp only [Act.put, nz]
    refine tkI (i := 5) (v := .pointer (some ⟨gc, 0, none⟩)) rfl (by kernel_rfl) (Or.inl ⟨by rfl, fun w _ => by rfl⟩) hS ?_
    try simp only [Act.put, nz]
    refine tkI (i := 6) (v := .pointer (some ⟨gc, 0, none⟩)) rfl (by kernel_rfl) (Or.inl ⟨by rfl, fun w _ => by go_simp⟩) hS ?_
    try simp only [Act.put, nz]
    refine tkI (i := 7) (v := .pointer (some ⟨gc, 5, none⟩)) rfl (by kernel_rfl) (Or.inl ⟨by rfl, fun w _ => by go_simp⟩) hS ?_
    try simp only [Act.put, nz]
    refine tkI (i := 8) (v := .int .i64 s.most) rfl (by kernel_rfl) (Or.inl ⟨by rfl, fun w h => by have c := row_at h.1 5 _ rfl; go_simp⟩) hS ?_
    try simp only [Act.put, nz]
    refine tkI (i := 9) (v := .bool false) rfl (by kernel_rfl) (Or.inl ⟨by rfl, fun w _ => by go_simp⟩) hS ?_
    try simp only [Act.put, nz]
    refine wpAnyH_done (by kernel_rfl) ?_ _
    have hb : Below w.heap.size w w.drew := hS.2
    have hC1 : CL w.drew F gc gd gl gk ak s l d M N := HC.out.below hb
    clear hS
    generalize w.drew = W at hb hC1 ⊢
    obtain ⟨fv1, m1, n1, vl1, vs1, L1, cA1, _, _, _⟩ := hC1.ex
    have c2 : W.cell? ⟨gc, 2, none⟩ = some (.pointer (some ⟨gk, 0, none⟩)) := row_at cA1.row 2 _ rfl
    have hvi := Cl.victim_any cA1.clk
    clear cA1
    go_upto_region 4 with (first
      | (go_at_call 95; refine Calls.mono hvi ?_; clear hvi; rintro e W2 hv; obtain ⟨v, b, ck', h', rfl, hvc, hsm2, hck, ho⟩ := hv))
    have hC2 := CStep.ahead hb (hC1.clock hck ho hsm2.1)
    clear hC1 hck ho c2 hb
    cases b with
    | false =>
      go_wp2
      rw [HPP.out]
      exact HPO.out _ _ (Or.inr ⟨hEQ, v, false, ck', h', hvc, hsm2, Or.inl ⟨rfl, rfl, hC2⟩⟩)
    | true =>
      obtain ⟨x, hx, hvx⟩ := Vict_lt hvc
      have hvl : v < s.fs.length := by rw [hEQ, ← HCK.out, hvx]; exact HNO.out x (Cl.mem_ring.1 hx)
      obtain ⟨f, hf⟩ : ∃ f, s.fs[v]? = some f := ⟨_, List.getElem?_eq_getElem hvl⟩
      obtain ⟨o2, F2, hC3, hF3⟩ := hC2
      clear hx hvx hvl
      by_cases hd : f.dirty = true
      · have hwb := wb_any hC3 v f hf hd hi hfi hop hopF hN
        rw [wbR_ck] at hwb
        have HD : Hid (f.dirty = true) := hd
        have HF2 : Hid (s.fs[v]? = some f) := hf
        clear hd hf hi hfi hop hopF hN
        go_wp2_with (first
          | (go_at_call 59; refine Calls.mono hwb ?_; clear hwb; rintro e W3 ⟨he, hst⟩; obtain rfl := he))
        rw [HPP.out]
        exact HPO.out _ _ (Or.inr ⟨hEQ, v, true, ck', h', hvc, hsm2, Or.inr ⟨rfl, f, HF2.out, Or.inr ⟨HD.out, rfl, CStep.behind2 o2 hF3 hst⟩⟩⟩)
      · have hd2 : f.dirty = false := by simpa using hd
        have hwb := wb_clean hC3 v f hf hd2
        have HD : Hid (f.dirty = false) := hd2
        have HF2 : Hid (s.fs[v]? = some f) := hf
        clear hd hd2 hf hi hfi hop hopF hN
        go_wp2_with (first
          | (go_at_call 59; refine Calls.mono hwb ?_; clear hwb; rintro e W3 ⟨he, hww⟩; rw [hww]; clear hww W3; obtain rfl := he))
        rw [HPP.out]
        exact HPO.out _ _ (Or.inr ⟨hEQ, v, true, ck', h', hvc, hsm2, Or.inr ⟨rfl, f, HF2.out, Or.inl ⟨HD.out, rfl, o2, F2, hC3, hF3⟩⟩⟩)
def unpinE (s : Cs) (u : Bool) (k : Int) : Int := if pinsC s u k = 0 then 1 else 0
def setPins (s : Cs) (i : Nat) (n : Int) : Cs := { s with ck := match s.ck[i]? with | some x => s.ck.set i { x with pins := x.pins + n } | none => s.ck }
def unpinS (s : Cs) (u : Bool) (k : Int) : Cs := match posF s.fs u k with | some i => if pinsC s u k = 0 then s else setPins s i (-1) | none => s
def setCold (s : Cs) (i : Nat) (b : Bool) : Cs := { s with ck := match s.ck[i]? with | some x => s.ck.set i { x with cold := b } | none => s.ck }
def coldS (s : Cs) (u : Bool) (k : Int) (b : Bool) : Cs := match posF s.fs u k with | some i => setCold s i b | none => s
set_option maxHeartbeats 1000000 in
theorem unpin_any {w : World} {F : Nat → Prop} {gc gd gl gk ak : Nat} {s : Cs} {l : Lg} {d : Dsk} {M : Int} {N : Nat} (c : CL w F gc gd gl gk ak s l d M N) (u : Bool) (k : Int) (hk : WfU k) : Calls Try.prog 21 #[.pointer (some ⟨gc, 0, none⟩), idv u k] w fun e w' => e = .returned (.int .i64 (unpinE s u k)) ∧ CStep w F gc gd gl gk ak (unpinS s u k) l d M N w' := by
  have ok := c.ok
  obtain ⟨PP, HPP⟩ : ∃ PP : Ending → World → Prop, Hid (PP = fun e w' => e = .returned (.int .i64 (unpinE s u k)) ∧ CStep w F gc gd gl gk ak (unpinS s u k) l d M N w') := ⟨_, rfl⟩
  rw [← HPP.out]
  have r0 : Row (w.alloc (.cells #[.bool u, .int .u16 k] 31)) w.heap.size #[.bool u, .int .u16 k] 31 := Row.new _ _ _
  have ab : Below w.heap.size w (w.alloc (.cells #[.bool u, .int .u16 k] 31)) := (Below.refl _ _).alloc (Nat.le_refl _) _
  have hfi : Calls Try.prog 56 #[.pointer (some ⟨gc, 0, none⟩), .agg #[.bool u, .int .u16 k]] (w.alloc (.cells #[.bool u, .int .u16 k] 31)) fun e w' => e = .returned (.tuple #[.int .i64 ((whereF s.fs u k).getD 0), .bool (whereF s.fs u k).isSome]) ∧ Below (w.alloc (.cells #[.bool u, .int .u16 k] 31)).heap.size (w.alloc (.cells #[.bool u, .int .u16 k] 31)) w' := by
    obtain ⟨fv, m, n, vl, vs, L, cA, _⟩ := c.ex
    exact find_any (cA.below ab) u k hk
  have HC : Hid (CL w F gc gd gl gk ak s l d M N) := c
  unfold idv
  cases hp : posF s.fs u k with
  | none =>
    rw [where_none hp] at hfi
    simp only [Option.getD_none, Option.isSome_none] at hfi
    have HE : Hid (unpinE s u k = 1 ∧ unpinS s u k = s) := ⟨by unfold unpinE pinsC; rw [hp]; rfl, by unfold unpinS; rw [hp]⟩
    clear hp c ok
    go_enter Try.func21, Try.ntmps21
    go_upto_region 1 with fail
    generalize w.alloc (.cells #[.bool u, .int .u16 k] 31) = W at r0 ab hfi ⊢
    obtain ⟨A0, HA0⟩ : ∃ A0, Hid (w.heap.size = A0) := ⟨_, rfl⟩
    rw [HA0.out] at r0 ⊢
    have tl : Hid (1 = 1) := rfl
    go_wp2_with (first
      | (have hh := tl; clear hh tl; refine load_cells rfl 31 (.tmp 3) rfl A0 rfl 31 #[.bool u, .int .u16 k] r0 2 Try.underlying31 rfl size31 rfl ?_)
      | (have hh := hfi; clear hh; go_at_call 56; refine Calls.mono hfi ?_; clear hfi; rintro e W1 ⟨he, hb⟩; obtain rfl := he; have ab := ab.trans (hb.mono ab.size); clear hb; ))
    rw [HPP.out, HE.out.1, HE.out.2]
    exact ⟨rfl, CStep.same HC.out ab⟩
  | some i =>
    rw [where_some hp] at hfi
    simp only [Option.getD_some, Option.isSome_some] at hfi
    have hil := posF_lt hp
    obtain ⟨x, hx⟩ : ∃ x, s.ck[i]? = some x := ⟨_, List.getElem?_eq_getElem (by rw [ok.ck]; exact Nat.lt_of_lt_of_le hil ok.few)⟩
    have hpc : pinsC s u k = x.pins := by unfold pinsC; rw [hp]; simp [hx]
    by_cases h0 : x.pins = 0
    · have HE : Hid (unpinE s u k = 1 ∧ unpinS s u k = s) := ⟨by unfold unpinE; rw [hpc, if_pos h0], by unfold unpinS; rw [hp]; simp only [hpc, h0, if_true]⟩
      have HUP : Hid (∀ W, CL W F gc gd gl gk ak s l d M N → Calls Try.prog 57 #[.pointer (some ⟨gk, 0, none⟩), .int .i64 i] W fun e w' => e = .returned (.bool false) ∧ w' = W) := fun W h => by
        obtain ⟨fv, m, n, vl, vs, L, cA, _⟩ := h.ex
        have := Cl.pins_in cA.clk i x hx
        rw [h0] at this
        exact Cl.unpin_zero _ _ W this
      clear hp c ok hil hx hpc h0
      go_enter Try.func21, Try.ntmps21
      go_upto_region 1 with fail
      generalize w.alloc (.cells #[.bool u, .int .u16 k] 31) = W at r0 ab hfi ⊢
      obtain ⟨A0, HA0⟩ : ∃ A0, Hid (w.heap.size = A0) := ⟨_, rfl⟩
      rw [HA0.out] at r0 ⊢
      have tl : Hid (1 = 1) := rfl
      go_wp2_with (first
        | (have hh := tl; clear hh tl; refine load_cells rfl 31 (.tmp 3) rfl A0 rfl 31 #[.bool u, .int .u16 k] r0 2 Try.underlying31 rfl size31 rfl ?_)
        | (have hh := hfi; clear hh; go_at_call 56; refine Calls.mono hfi ?_; clear hfi; rintro e W1 ⟨he, hb⟩; obtain rfl := he; have ab := ab.trans (hb.mono ab.size); clear hb; obtain ⟨fv1, m1, n1, vl1, vs1, L1, cA1, _⟩ := (HC.out.below ab).ex; have c2 : W1.cell? ⟨gc, 2, none⟩ = some (.pointer (some ⟨gk, 0, none⟩)) := row_at cA1.row 2 _ rfl; have hup := HUP.out W1 (HC.out.below ab))
        | (have hh := hup; clear hh; go_at_call 57; refine Calls.mono hup ?_; clear hup; rintro e W2 ⟨he, hww⟩; rw [hww]; clear hww W2; obtain rfl := he))
      rw [HPP.out, HE.out.1, HE.out.2]
      exact ⟨rfl, CStep.same HC.out ab⟩
    · have HE : Hid (unpinE s u k = 0 ∧ unpinS s u k = { s with ck := s.ck.set i { x with pins := x.pins - 1 } }) := ⟨by unfold unpinE; rw [hpc, if_neg h0], by unfold unpinS setPins; rw [hp]; simp only [hpc, h0, if_false, hx]; rfl⟩
      have HUP : Hid (∀ W, CL W F gc gd gl gk ak s l d M N → Calls Try.prog 57 #[.pointer (some ⟨gk, 0, none⟩), .int .i64 i] W fun e w' => e = .returned (.bool true) ∧ CStep W F gc gd gl gk ak { s with ck := s.ck.set i { x with pins := x.pins - 1 } } l d M N w') := fun W h => by
        obtain ⟨fv, m, n, vl, vs, L, cA, _⟩ := h.ex
        refine (Cl.unpin_in cA.clk i x hx h0).mono fun e w' q => ⟨q.1, ?_⟩
        exact h.clock q.2.1 q.2.2 (List.length_set ..)
      clear hp c ok hil hx hpc h0
      go_enter Try.func21, Try.ntmps21
      go_upto_region 1 with fail
      generalize w.alloc (.cells #[.bool u, .int .u16 k] 31) = W at r0 ab hfi ⊢
      obtain ⟨A0, HA0⟩ : ∃ A0, Hid (w.heap.size = A0) := ⟨_, rfl⟩
      rw [HA0.out] at r0 ⊢
      have tl : Hid (1 = 1) := rfl
      go_wp2_with (first
        | (have hh := tl; clear hh tl; refine load_cells rfl 31 (.tmp 3) rfl A0 rfl 31 #[.bool u, .int .u16 k] r0 2 Try.underlying31 rfl size31 rfl ?_)
        | (have hh := hfi; clear hh; go_at_call 56; refine Calls.mono hfi ?_; clear hfi; rintro e W1 ⟨he, hb⟩; obtain rfl := he; have ab := ab.trans (hb.mono ab.size); clear hb; obtain ⟨fv1, m1, n1, vl1, vs1, L1, cA1, _⟩ := (HC.out.below ab).ex; have c2 : W1.cell? ⟨gc, 2, none⟩ = some (.pointer (some ⟨gk, 0, none⟩)) := row_at cA1.row 2 _ rfl; have hup := HUP.out W1 (HC.out.below ab))
        | (have hh := hup; clear hh; go_at_call 57; refine Calls.mono hup ?_; clear hup; rintro e W2 ⟨he, hst⟩; obtain rfl := he))
      rw [HPP.out, HE.out.1, HE.out.2]
      exact ⟨rfl, CStep.ahead ab hst⟩
set_option maxHeartbeats 1000000 in
theorem ccold_any {w : World} {F : Nat → Prop} {gc gd gl gk ak : Nat} {s : Cs} {l : Lg} {d : Dsk} {M : Int} {N : Nat} (c : CL w F gc gd gl gk ak s l d M N) (u : Bool) (k : Int) (hk : WfU k) (b : Bool) : Calls Try.prog 36 #[.pointer (some ⟨gc, 0, none⟩), idv u k, .bool b] w fun e w' => e = .returned (.tuple #[]) ∧ CStep w F gc gd gl gk ak (coldS s u k b) l d M N w' := by
  have ok := c.ok
  obtain ⟨PP, HPP⟩ : ∃ PP : Ending → World → Prop, Hid (PP = fun e w' => e = .returned (.tuple #[]) ∧ CStep w F gc gd gl gk ak (coldS s u k b) l d M N w') := ⟨_, rfl⟩
  rw [← HPP.out]
  have r0 : Row (w.alloc (.cells #[.bool u, .int .u16 k] 31)) w.heap.size #[.bool u, .int .u16 k] 31 := Row.new _ _ _
  have ab : Below w.heap.size w (w.alloc (.cells #[.bool u, .int .u16 k] 31)) := (Below.refl _ _).alloc (Nat.le_refl _) _
  have hfi : Calls Try.prog 56 #[.pointer (some ⟨gc, 0, none⟩), .agg #[.bool u, .int .u16 k]] (w.alloc (.cells #[.bool u, .int .u16 k] 31)) fun e w' => e = .returned (.tuple #[.int .i64 ((whereF s.fs u k).getD 0), .bool (whereF s.fs u k).isSome]) ∧ Below (w.alloc (.cells #[.bool u, .int .u16 k] 31)).heap.size (w.alloc (.cells #[.bool u, .int .u16 k] 31)) w' := by
    obtain ⟨fv, m, n, vl, vs, L, cA, _⟩ := c.ex
    exact find_any (cA.below ab) u k hk
  have HC : Hid (CL w F gc gd gl gk ak s l d M N) := c
  unfold idv
  cases hp : posF s.fs u k with
  | none =>
    rw [where_none hp] at hfi
    simp only [Option.getD_none, Option.isSome_none] at hfi
    have HE : Hid (coldS s u k b = s) := by show coldS s u k b = s; unfold coldS; rw [hp]
    clear hp c ok
    go_enter Try.func36, Try.ntmps36
    go_upto_region 1 with fail
    generalize w.alloc (.cells #[.bool u, .int .u16 k] 31) = W at r0 ab hfi ⊢
    obtain ⟨A0, HA0⟩ : ∃ A0, Hid (w.heap.size = A0) := ⟨_, rfl⟩
    rw [HA0.out] at r0 ⊢
    have tl : Hid (1 = 1) := rfl
    go_wp2_with (first
      | (have hh := tl; clear hh tl; refine load_cells rfl 31 (.tmp 4) rfl A0 rfl 31 #[.bool u, .int .u16 k] r0 2 Try.underlying31 rfl size31 rfl ?_)
      | (have hh := hfi; clear hh; go_at_call 56; refine Calls.mono hfi ?_; clear hfi; rintro e W1 ⟨he, hb⟩; obtain rfl := he; have ab := ab.trans (hb.mono ab.size); clear hb; ))
    first
      | go_end0
      | (refine bodyPost_ret (results_none rfl _ _ _) rfl ?_)
    rw [HPP.out, HE.out]
    exact ⟨rfl, CStep.same HC.out ab⟩
  | some i =>
    rw [where_some hp] at hfi
    simp only [Option.getD_some, Option.isSome_some] at hfi
    have hil := posF_lt hp
    obtain ⟨x, hx⟩ : ∃ x, s.ck[i]? = some x := ⟨_, List.getElem?_eq_getElem (by rw [ok.ck]; exact Nat.lt_of_lt_of_le hil ok.few)⟩
    have HE : Hid (coldS s u k b = { s with ck := s.ck.set i { x with cold := b } }) := by show coldS s u k b = _; unfold coldS setCold; rw [hp]; simp only [hx]
    have HUP : Hid (∀ W, CL W F gc gd gl gk ak s l d M N → Calls Try.prog 69 #[.pointer (some ⟨gk, 0, none⟩), .int .i64 i, .bool b] W fun e w' => e = .returned (.tuple #[]) ∧ CStep W F gc gd gl gk ak { s with ck := s.ck.set i { x with cold := b } } l d M N w') := fun W h => by
      obtain ⟨fv, m, n, vl, vs, L, cA, _⟩ := h.ex
      refine (Cl.cold_in cA.clk i x hx b).mono fun e w' q => ⟨q.1, ?_⟩
      exact h.clock q.2.1 q.2.2 (List.length_set ..)
    clear hp c ok hil hx
    go_enter Try.func36, Try.ntmps36
    go_upto_region 1 with fail
    generalize w.alloc (.cells #[.bool u, .int .u16 k] 31) = W at r0 ab hfi ⊢
    obtain ⟨A0, HA0⟩ : ∃ A0, Hid (w.heap.size = A0) := ⟨_, rfl⟩
    rw [HA0.out] at r0 ⊢
    have tl : Hid (1 = 1) := rfl
    go_wp2_with (first
      | (have hh := tl; clear hh tl; refine load_cells rfl 31 (.tmp 4) rfl A0 rfl 31 #[.bool u, .int .u16 k] r0 2 Try.underlying31 rfl size31 rfl ?_)
      | (have hh := hfi; clear hh; go_at_call 56; refine Calls.mono hfi ?_; clear hfi; rintro e W1 ⟨he, hb⟩; obtain rfl := he; have ab := ab.trans (hb.mono ab.size); clear hb; obtain ⟨fv1, m1, n1, vl1, vs1, L1, cA1, _⟩ := (HC.out.below ab).ex; have c2 : W1.cell? ⟨gc, 2, none⟩ = some (.pointer (some ⟨gk, 0, none⟩)) := row_at cA1.row 2 _ rfl; have hup := HUP.out W1 (HC.out.below ab))
      | (have hh := hup; clear hh; go_at_call 69; refine Calls.mono hup ?_; clear hup; rintro e W2 ⟨he, hst⟩; obtain rfl := he))
    first
      | go_end0
      | (refine bodyPost_ret (results_none rfl _ _ _) rfl ?_)
    rw [HPP.out, HE.out]
    exact ⟨rfl, CStep.ahead ab hst⟩
theorem payT_at (k no lsn : Int) (t : List Int) (h : t.length ≤ 209) (j : Nat) (hj : j < 3 ∨ 7 ≤ j) : (payT k no lsn t).getD j 0 = (headT k no lsn ++ t).getD j 0 := by
  have hl : (headT k no lsn ++ t).length ≤ 224 := by rw [List.length_append, headT_length]; omega
  unfold payT sealT
  rw [splice_getD _ _ _ _ (by rw [low_length, padT_length _ hl]; omega), low_length, padT_at _ hl]
  rcases hj with hj | hj
  · rw [if_pos hj]
  · rw [if_neg (by omega), if_neg (by omega)]
theorem head_kind (k no lsn : Int) (t : List Int) : (headT k no lsn ++ t).getD 0 0 = k % 256 := by
  rw [getD_left (by rw [headT_length]; omega)]
  unfold headT
  rw [getD_left (by simp [low_length]), getD_left (by simp [low_length]), getD_left (by simp [low_length]), low_getD _ _ _ (by decide)]
  simp
theorem head_no (k no lsn : Int) (t : List Int) (i : Nat) (hi : i < 2) : (headT k no lsn ++ t).getD (1 + i) 0 = no / 2 ^ (8 * i) % 256 := by
  rw [getD_left (by rw [headT_length]; omega)]
  unfold headT
  rw [getD_left (by simp [low_length]; omega), getD_left (by simp [low_length]; omega), getD_right (by simp [low_length]), low_length, low_getD _ _ _ (by omega)]
  rw [show 1 + i - 1 = i by omega]
theorem head_lsn (k no lsn : Int) (t : List Int) (i : Nat) (hi : i < 8) : (headT k no lsn ++ t).getD (7 + i) 0 = lsn / 2 ^ (8 * i) % 256 := by
  rw [getD_left (by rw [headT_length]; omega)]
  unfold headT
  have e : (low k 1 ++ low no 2 ++ low 0 4).length = 7 := by simp [low_length]
  rw [getD_right (by rw [e]; omega), e, low_getD _ _ _ (by omega)]
  rw [show 7 + i - 7 = i by omega]
theorem head_text (k no lsn : Int) (t : List Int) (i : Nat) : (headT k no lsn ++ t).getD (15 + i) 0 = t.getD i 0 := by
  rw [getD_right (by rw [headT_length]; omega), headT_length]
  rw [show 15 + i - 15 = i by omega]
theorem payT_lsn (k no lsn : Int) (t : List Int) (h : t.length ≤ 209) (hb : Bytes t) (hl : 0 ≤ lsn ∧ lsn ≤ 18446744073709551615) : getN (strOfNums (payT k no lsn t)) 7 8 = lsn := by
  refine getN_tx (payT_bytes k no lsn t hb) lsn hl.1 7 8 (by rw [payT_length _ _ _ _ h]; omega) (by omega) fun i hi => ?_
  rw [payT_at _ _ _ _ h _ (by omega), head_lsn _ _ _ _ _ hi]
theorem payT_no (k no lsn : Int) (t : List Int) (h : t.length ≤ 209) (hb : Bytes t) (hl : 0 ≤ no ∧ no ≤ 65535) : getN (strOfNums (payT k no lsn t)) 1 2 = no := by
  refine getN_tx (payT_bytes k no lsn t hb) no hl.1 1 2 (by rw [payT_length _ _ _ _ h]; omega) (by omega) fun i hi => ?_
  rw [payT_at _ _ _ _ h _ (by omega), head_no _ _ _ _ _ hi]
theorem data_ts (d : D) (i : Nat) (hi : i < 4) : (dataT d).getD i 0 = d.ts / 2 ^ (8 * i) % 256 := by
  unfold dataT
  rw [List.append_assoc, getD_left (by rw [low_length]; exact hi), low_getD _ _ _ hi]
theorem data_page (d : D) (i : Nat) (hi : i < 2) : (dataT d).getD (4 + i) 0 = d.page / 2 ^ (8 * i) % 256 := by
  unfold dataT
  rw [List.append_assoc, getD_right (by rw [low_length]; omega), low_length, show 4 + i - 4 = i by omega, getD_left (by rw [refT_length]; omega)]
  unfold refT
  rw [getD_left (by rw [low_length]; exact hi), low_getD _ _ _ hi]
theorem data_slot (d : D) : (dataT d).getD 6 0 = d.slot % 256 := by
  unfold dataT
  rw [List.append_assoc, getD_right (by rw [low_length]; omega), low_length, getD_left (by rw [refT_length]; omega)]
  unfold refT
  rw [getD_right (by rw [low_length]; omega), low_length, low_getD _ _ _ (by decide)]
  simp
theorem data_body (d : D) (i : Nat) : (dataT d).getD (7 + i) 0 = d.body.getD i 0 := by
  unfold dataT
  rw [getD_right (by simp [low_length, refT_length])]
  congr 1
  simp [low_length, refT_length]
theorem dOf_putD (no : Int) (d : D) (hd : d.Ok) : dOf (putD no d) = d := by
  obtain ⟨hlsn, hts, hpg, hsl, hbl, hby⟩ := hd
  have hl := dataT_length d hbl
  have hb := dataT_bytes d hby
  have hpl := putD_length no d hbl
  have hpb := putD_bytes no d hby
  have at15 : ∀ i, (putD no d).getD (15 + i) 0 = (dataT d).getD i 0 := fun i => by
    unfold putD
    rw [payT_at _ _ _ _ (by omega) _ (by omega), head_text]
  have e1 : getN (strOfNums (putD no d)) 7 8 = d.lsn := payT_lsn _ _ _ _ (by omega) hb hlsn
  have e2 : getN (strOfNums (putD no d)) 15 4 = d.ts := getN_tx hpb _ hts.1 15 4 (by omega) (by omega) fun i hi => by rw [at15, data_ts _ _ hi]
  have e3 : getN (strOfNums (putD no d)) 19 2 = d.page := getN_tx hpb _ hpg.1 19 2 (by omega) (by omega) fun i hi => by
    have := at15 (4 + i)
    rw [show 15 + (4 + i) = 19 + i by omega] at this
    rw [this, data_page _ _ hi]
  have e4 : getN (strOfNums (putD no d)) 21 1 = d.slot := getN_tx hpb _ hsl.1 21 1 (by omega) (by omega) fun i hi => by
    have := at15 6
    obtain rfl : i = 0 := by omega
    rw [show 21 + 0 = 15 + 6 by omega, this, data_slot]
    simp
  have e5 : ((putD no d).drop 22).take 64 = d.body := by
    apply list_ext _ _ 64 (by simp; omega) hbl
    intro i hi
    have := at15 (7 + i)
    rw [data_body] at this
    rw [← this]
    simp only [List.getD]
    rw [List.getElem?_take, if_pos hi, List.getElem?_drop]
    congr 2
    omega
  unfold dOf
  rw [e1, e2, e3, e4, e5]
theorem isD_putD (no : Int) (d : D) (hd : d.Ok) : isD no (putD no d) = true := by
  unfold isD; rw [dOf_putD no d hd]; simp
theorem putD_no (no : Int) (d : D) (hd : d.Ok) (hno : 0 ≤ no ∧ no ≤ 65535) : getN (strOfNums (putD no d)) 1 2 = no :=
  payT_no _ _ _ _ (by rw [dataT_length d hd.len]; omega) (dataT_bytes d hd.bytes) hno
theorem putD_kind (no : Int) (d : D) (hd : d.Ok) : (putD no d).getD 0 0 = 1 := by
  unfold putD
  rw [payT_at _ _ _ _ (by rw [dataT_length d hd.len]; omega) _ (by omega), head_kind]
  rfl
theorem putD_inj (no on : Int) (a b : D) (ha : a.Ok) (hb : b.Ok) (h1 : 0 ≤ no ∧ no ≤ 65535) (h2 : 0 ≤ on ∧ on ≤ 65535) (h : putD no a = putD on b) : no = on ∧ a = b := by
  refine ⟨?_, ?_⟩
  · rw [← putD_no no a ha h1, h, putD_no on b hb h2]
  · rw [← dOf_putD no a ha, h, dOf_putD on b hb]
theorem isD_other (no on : Int) (d : D) (hd : d.Ok) (h1 : 0 ≤ no ∧ no ≤ 65535) (h2 : 0 ≤ on ∧ on ≤ 65535) : isD on (putD no d) = decide (no = on) := by
  unfold isD
  rw [dOf_putD no d hd]
  apply decide_eq_decide.2
  constructor
  · intro h; exact ((putD_inj on no d d hd hd h2 h1 h).1).symm
  · intro h; rw [h]
instance : DecidableEq D := fun a b => by
  cases a; cases b
  simp only [D.mk.injEq]
  exact inferInstance
theorem built31 (no : Int) : (Try.prog.built 31 [(1, .int .u16 no)]) = some #[.bool false, .int .u16 no] := by kernel_rfl
set_option maxHeartbeats 1000000 in
theorem blank_data (no : Int) (w : World) (hno : 0 ≤ no ∧ no ≤ 65535) :
    Calls Try.prog 15 #[.agg #[.bool false, .int .u16 no]] w fun e w' => e = .returned (.agg (bs (putD no D.zero))) ∧ Below w.heap.size w w' := by
  have hz := zero34
  have r0 : Row ((w.alloc (.cells #[.bool false, .int .u16 no] 31)).alloc (.cells (bs (zs 224)) 34)) w.heap.size #[.bool false, .int .u16 no] 31 := (Row.new _ _ _).alloc _
  have r1 : Row ((w.alloc (.cells #[.bool false, .int .u16 no] 31)).alloc (.cells (bs (zs 224)) 34)) (w.heap.size + 1) (bs (zs 224)) 34 := by have := Row.new (w.alloc (.cells #[.bool false, .int .u16 no] 31)) (bs (zs 224)) 34; simpa using this
  have ab : Below w.heap.size w ((w.alloc (.cells #[.bool false, .int .u16 no] 31)).alloc (.cells (bs (zs 224)) 34)) := ((Below.refl _ _).alloc (Nat.le_refl _) _).alloc (by simp) _
  have HP : Hid _ := fun w => putData_any no D.zero w hno D.zero_ok
  have hlen := putD_length no D.zero (zs_length _)
  obtain ⟨R, HR⟩ : ∃ R, Hid (putD no D.zero = R) := ⟨_, rfl⟩
  rw [HR.out] at HP hlen ⊢
  have c0 := row_at r0 0 _ rfl
  have c1 := row_at r0 1 _ rfl
  go_enter Try.func15, Try.ntmps15
  go_upto_region 1 with fail
  generalize (w.alloc (.cells #[.bool false, .int .u16 no] 31)).alloc (.cells (bs (zs 224)) 34) = w1 at r0 r1 ab c0 c1 ⊢
  go_wp2_with (first
    | (refine build_none rfl 109 rfl _ built109 ?_)
    | (go_at_call 44; refine (HP.out _).mono ?_; clear HP; rintro e w3 ⟨rfl, h3⟩)
    | (refine store_row rfl 34 (.tmp 2) (.tmp 18) rfl (w.heap.size + 1) R rfl rfl 34 _ (r1.below h3 r1.lt) 224 size34 (by rw [bs_size, zs_length]) hlen ?_))
  refine bodyPost_ret (v := .agg (bs R)) ?_ rfl ⟨rfl, below_setRow (ab.trans (h3.mono ab.size)) (by omega) _⟩
  exact ret_row (fn := Try.f15) rfl _ _ (w.heap.size + 1) 34 (bs R) 224 5 rfl ((r1.below h3 r1.lt).set _) Try.underlying34 size34 (by rw [bs_size, hlen])
theorem gotD_ok (no : Int) (p : List Int) (hp : p.length = 224) (hb : Bytes p) : (gotD no p).Ok := by
  unfold gotD; split
  · exact dOf_ok p hp hb
  · exact D.zero_ok
set_option maxHeartbeats 1000000 in
theorem right_data (no : Int) (p : List Int) (w : World) (hno : 0 ≤ no ∧ no ≤ 65535) (hp : p.length = 224) (hb : Bytes p) :
    Calls Try.prog 53 #[.agg #[.bool false, .int .u16 no], .agg (bs p)] w fun e w' => e = .returned (.bool (isD no p)) ∧ Below w.heap.size w w' := by
  have hz := zero109
  have r0 : Row ((w.alloc (.cells #[.bool false, .int .u16 no] 31)).alloc (.cells (bs p) 34)) w.heap.size #[.bool false, .int .u16 no] 31 := (Row.new _ _ _).alloc _
  have r1 : Row ((w.alloc (.cells #[.bool false, .int .u16 no] 31)).alloc (.cells (bs p) 34)) (w.heap.size + 1) (bs p) 34 := by have := Row.new (w.alloc (.cells #[.bool false, .int .u16 no] 31)) (bs p) 34; simpa using this
  have ab : Below w.heap.size w ((w.alloc (.cells #[.bool false, .int .u16 no] 31)).alloc (.cells (bs p) 34)) := ((Below.refl _ _).alloc (Nat.le_refl _) _).alloc (by simp) _
  have HP : Hid _ := fun w => getData_any no p w hno hp hb
  have hok := gotD_ok no p hp hb
  have hsz := D.arr_size (gotD no p) hok.len
  have hone := D.arr_one (gotD no p)
  have HE : Hid (errD no p = 0 ↔ isD no p = true) := by
    show _ ↔ _
    unfold errD
    split <;> simp_all
  obtain ⟨X, HX⟩ : ∃ R, Hid ((gotD no p).arr = R) := ⟨_, rfl⟩
  obtain ⟨E, HEE⟩ : ∃ R, Hid (errD no p = R) := ⟨_, rfl⟩
  rw [HX.out] at HP hsz hone
  rw [HEE.out] at HP HE
  have HB : Hid ((E == 0) = isD no p) := by
    show _ = _
    rw [Bool.eq_iff_iff, ← HE.out]; simp
  have hpb : (bs p).size = 224 := by rw [bs_size, hp]
  have c0 := row_at r0 0 _ rfl
  have c1 := row_at r0 1 _ rfl
  go_enter Try.func53, Try.ntmps53
  go_upto_region 1 with fail
  generalize (w.alloc (.cells #[.bool false, .int .u16 no] 31)).alloc (.cells (bs p) 34) = w1 at r0 r1 ab c0 c1 ⊢
  go_wp2_with (first
    | (refine load_row rfl 34 (.tmp 3) rfl (w.heap.size + 1) rfl 34 (bs p) r1 224 5 Try.underlying34 size34 hpb ?_)
    | (go_at_call 83; refine (HP.out _).mono ?_; clear HP; rintro e w3 ⟨rfl, h3⟩
       have q3 : Row (w3.alloc (.cells D.zero.arr 109)) w3.heap.size D.zero.arr 109 := Row.new _ _ _)
    | (refine store_cells rfl 109 (.tmp 7) (.tmp 25) rfl w3.heap.size X rfl rfl 109 _ q3 68 size109 rfl hsz hone ?_))
  have b3 : Below w.heap.size w w3 := ab.trans (h3.mono ab.size)
  go_ret
  exact ⟨ret_bool HB.out, below_setRow (b3.alloc b3.size _) b3.size _⟩
end Go.Proofs.Ytehogiondcpbcaa
