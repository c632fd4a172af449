/-
  Proved here: slices.Index, slices.Contains of pages. A transaction in a list, to which a call is added. Proved here: note.
-/
import Derived.Test.YtdlllnkcjfpajaaJq17
namespace Go.Proofs.Ytdlllnkcjfpajaa
open Go.ChangeShapes Go.WideShapes Go.ChangeAt Go.RowKit
set_option linter.unusedVariables false
set_option linter.unusedSimpArgs false
set_option maxRecDepth 20000
def IdxR (w : World) (ws : List Int) (page : Int) (e : Ending) (w' : World) : Prop := ∃ k : Int, e = .returned (.int .i64 k) ∧ (0 ≤ k ↔ page ∈ ws) ∧ Below w.heap.size w w'
set_option maxHeartbeats 4000000 in
theorem index_any {w : World} {s : Sl} {ws : List Int} (h : Pg.Olds w (.slice s.a s.n s.c) (ws.map gO)) (hn : ws.length ≤ 1000) (page : Int) :
    Calls Try.prog 66 #[.slice s.a s.n s.c, .int .u16 page] w fun e w' => IdxR w ws page e w' := by
  obtain ⟨wa, wn, wc⟩ := s
  obtain ⟨hwn, hpg⟩ := old_page h
  replace hwn : wn = ws.length := hwn
  have HYES : Hid (page ∈ ws → ∀ (j : Nat) w', Below w.heap.size w w' → IdxR w ws page (.returned (.int .i64 (j : Int))) w') := fun q j w' hb => ⟨j, rfl, ⟨fun _ => q, fun _ => by omega⟩, hb⟩
  have HNOT : Hid (¬ page ∈ ws → ∀ w', Below w.heap.size w w' → IdxR w ws page (.returned (.int .i64 (-1))) w') := fun q w' hb => ⟨-1, rfl, ⟨(fun q => by omega), fun q' => absurd q' q⟩, hb⟩
  generalize IdxR w ws page = PP at HYES HNOT ⊢
  have HPG : Hid (∀ (j : Nat) x, ws[j]? = some x → ∃ b, wa = some b ∧ w.cell? (b.add j) = some (.int .u16 x)) := hpg
  have HN : Hid (wn = ws.length) := hwn
  have hw9 : wn ≤ 1000 := by rw [hwn]; exact hn
  have L0 : ∀ x ∈ ws.take 0, x ≠ page := fun x hx => by simp at hx
  clear h hpg hwn hn
  go_enter Try.func66, Try.ntmps66
  go_upto_region 2 with fail
  go_loopw [8] (fun q wr => ∃ j : Nat, q = .int .i64 (j : Int) ∧ j ≤ wn ∧ Hid (wr = w) ∧ (∀ x ∈ ws.take j, x ≠ page)) (fun q _ => 1001 - (intOf q).toNat)
  case atStart => exact ⟨0, rfl, Nat.zero_le _, by first | exact rfl | exact trivial, L0⟩
  case round =>
    clear L0
    obtain ⟨j, rfl, hj, hww, hL⟩ := hrel
    obtain rfl := hww.out
    have HL : Hid (∀ x ∈ ws.take j, x ≠ page) := hL
    clear hL
    by_cases hlt : j < wn
    · have hlt' : (j : Int) < (wn : Int) := by omega
      have hj0 : (0 : Int) ≤ (j : Int) := by omega
      obtain ⟨x, hx⟩ : ∃ x, ws[j]? = some x := ⟨_, List.getElem?_eq_getElem (by rw [← HN.out]; exact hlt)⟩
      obtain ⟨b, rfl, hcx⟩ := HPG.out j x hx
      have HX : Hid (ws[j]? = some x) := hx
      clear hx
      by_cases hp : page = x
      · have hfin := HYES.out (by rw [hp]; exact List.mem_of_getElem? HX.out) j _ (Below.refl _ _)
        subst hp
        go_wp2
        exact hfin
      · have HL2 : Hid (∀ y ∈ ws.take (j + 1), y ≠ page) := take_all HX.out HL.out (fun q => hp q.symm)
        go_wp2
        go_roundw
        case rel => exact ⟨j + 1, by go_num, by omega, by first | exact rfl | exact trivial, HL2.out⟩
        case measure => simp [intOf]; omega
    · have hlt' : ¬ (j : Int) < (wn : Int) := by omega
      have hfin := HNOT.out (fun q => by
        have e : j = ws.length := by rw [← HN.out]; omega
        exact HL.out page (by rw [e, List.take_length]; exact q) rfl) _ (Below.refl _ _)
      go_wp2
      exact hfin
theorem contains_any {w : World} {s : Sl} {ws : List Int} (h : Pg.Olds w (.slice s.a s.n s.c) (ws.map gO)) (hn : ws.length ≤ 1000) (page : Int) :
    Calls Try.prog 53 #[.slice s.a s.n s.c, .int .u16 page] w fun e w' => Says w (page ∈ ws) e w' := by
  have hi := index_any h hn page
  have HI : Hid (∀ e w', IdxR w ws page e w' → ∃ k : Int, e = .returned (.int .i64 k) ∧ (0 ≤ k ↔ page ∈ ws) ∧ Below w.heap.size w w') := fun e w' q => q
  generalize IdxR w ws page = II at hi HI
  have HSAY : Hid (∀ (b : Bool) w', (b = true ↔ page ∈ ws) → Below w.heap.size w w' → Says w (page ∈ ws) (.returned (.bool b)) w') := fun b w' q hb => ⟨b, rfl, q, hb⟩
  generalize Says w (page ∈ ws) = PP at HSAY ⊢
  clear h hn
  go_enter Try.func53, Try.ntmps53
  go_wp2_with (go_at_call 66; refine hi.mono ?_; clear hi; intro e w1 hq; obtain ⟨k, he, hk, hb⟩ := HI.out _ _ hq; obtain rfl := he; clear hq; have HS1 : Hid (∀ b : Bool, (b = true ↔ 0 ≤ k) → PP (.returned (.bool b)) w1) := fun b q => HSAY.out b w1 (q.trans hk) hb; clear hk hb)
  first
    | exact HS1.out _ (by simp)
    | (go_ret; exact HS1.out _ (by simp))
end Go.Proofs.Ytdlllnkcjfpajaa
namespace Go.Proofs.Ytdlllnkcjfpajaa
open Go.ChangeShapes Go.WideShapes Go.ChangeAt Go.RowKit
set_option linter.unusedVariables false
set_option linter.unusedSimpArgs false
set_option maxRecDepth 20000
end Go.Proofs.Ytdlllnkcjfpajaa
namespace Go.Proofs.Ytdlllnkcjfpajaa.Sn
open Go.ChangeShapes Go.WideShapes Go.ChangeAt Go.RowKit
theorem Own.snocL {w : World} {base : Nat} {v : Value} {os : List O} (h : Own w base v os) (ty : TypeId) (X : Nat) (p : O) (hX : Row w X p.arr 46) (hb : base ≤ w.heap.size) (hn : os.length ≤ 1000) :
    ∃ v' w', (Builtin.append_ #[36, 36] ty #[v, .slice (some ⟨X, 0, none⟩) 1 1]).run Try.prog w = .ok v' w' ∧ Own w' base v' (os ++ [p]) ∧ w.grownBy w' v.ownBlock ∧ (v'.ownBlock = v.ownBlock ∨ v'.ownBlock = some w.heap.size) := by
  obtain ⟨i, hi, hz, hs, hby⟩ := info_parts info46
  obtain ⟨v', w', hr, h2, h3, h4, h5⟩ := run_append_own_at (P := Try.prog) w base 36 ty 46 i _ 2 8 Try.underlying36 hi hz hs hby rfl (by decide) v os.length (flat os) h ⟨X, 0, none⟩ 1 1 p.cells rfl (fun j u hj => by rw [Addr.add_mid, Nat.zero_add, cell_of_row w X j _ _ _ hX, ← hj]; show p.cells.toArray[j]? = _; rw [List.getElem?_toArray]) (fun u hu => flat_one [p] u (by simpa [flat] using hu)) (by unfold maxLen; omega) (by omega) hb
  refine ⟨v', w', hr, ?_, h3, h5⟩
  unfold Own
  rw [flat_append, List.length_append]
  exact h2
end Go.Proofs.Ytdlllnkcjfpajaa.Sn
namespace Go.Proofs.Ytdlllnkcjfpajaa
open Go.ChangeShapes Go.WideShapes Go.ChangeAt Go.RowKit
end Go.Proofs.Ytdlllnkcjfpajaa
namespace Go.Proofs.Ytdlllnkcjfpajaa.Pg
open Go.ChangeShapes Go.WideShapes Go.ChangeAt Go.RowKit
theorem Own.snocL {w : World} {base : Nat} {v : Value} {os : List O} (h : Own w base v os) (ty : TypeId) (X : Nat) (p : O) (hX : Row w X p.arr 44) (hb : base ≤ w.heap.size) (hn : os.length ≤ 1000) :
    ∃ v' w', (Builtin.append_ #[37, 37] ty #[v, .slice (some ⟨X, 0, none⟩) 1 1]).run Try.prog w = .ok v' w' ∧ Own w' base v' (os ++ [p]) ∧ w.grownBy w' v.ownBlock ∧ (v'.ownBlock = v.ownBlock ∨ v'.ownBlock = some w.heap.size) := by
  obtain ⟨i, hi, hz, hs, hby⟩ := info_parts info44
  obtain ⟨v', w', hr, h2, h3, h4, h5⟩ := run_append_own_at (P := Try.prog) w base 37 ty 44 i _ 1 2 Try.underlying37 hi hz hs hby rfl (by decide) v os.length (flat os) h ⟨X, 0, none⟩ 1 1 p.cells rfl (fun j u hj => by rw [Addr.add_mid, Nat.zero_add, cell_of_row w X j _ _ _ hX, ← hj]; show p.cells.toArray[j]? = _; rw [List.getElem?_toArray]) (fun u hu => flat_one [p] u (by simpa [flat] using hu)) (by unfold maxLen; omega) (by omega) hb
  refine ⟨v', w', hr, ?_, h3, h5⟩
  unfold Own
  rw [flat_append, List.length_append]
  exact h2
end Go.Proofs.Ytdlllnkcjfpajaa.Pg
namespace Go.Proofs.Ytdlllnkcjfpajaa
open Go.ChangeShapes Go.WideShapes Go.ChangeAt Go.RowKit
set_option linter.unusedVariables false
set_option linter.unusedSimpArgs false
set_option maxRecDepth 20000
def rb (x : Hm) : Option Nat := (Value.slice x.r.a x.r.n x.r.c).ownBlock
def wb (x : Hm) : Option Nat := (Value.slice x.w.a x.w.n x.w.c).ownBlock
def Noted (w : World) (B g o : Nat) (cur : Array Value) (x : Hm) (p' : Pt) (w' : World) : Prop :=
  ∃ (x' : Hm) (cur' : Array Value), x'.p = p' ∧ Row w' g cur' 39 ∧ cur'.size = cur.size ∧ (∀ j v, x'.o.cells[j]? = some v → cur'[o + j]? = some v) ∧ (∀ i, (i < o ∨ o + 5 ≤ i) → cur'[i]? = cur[i]?) ∧ Own1 w' B x' ∧ Off (fun k => k = g ∨ rb x = some k ∨ wb x = some k) w w' ∧ (rb x' = rb x ∨ ∃ k, rb x' = some k ∧ w.heap.size ≤ k) ∧ (wb x' = wb x ∨ ∃ k, wb x' = some k ∧ w.heap.size ≤ k)
theorem cells_upd {cur : Array Value} {o : Nat} {cs : List Value} (hl : cs.length = 5) (h : ∀ j v, cs[j]? = some v → cur[o + j]? = some v) (k : Nat) (hk : k < 5) (u : Value) : (∀ j v, (cs.set k u)[j]? = some v → (cur.setIfInBounds (o + k) u)[o + j]? = some v) ∧ (cur.setIfInBounds (o + k) u).size = cur.size ∧ ∀ i, (i < o ∨ o + 5 ≤ i) → (cur.setIfInBounds (o + k) u)[i]? = cur[i]? := by
  have hlt : o + k < cur.size := by
    have := h k (cs[k]'(by omega)) (List.getElem?_eq_getElem (by omega))
    obtain ⟨q, _⟩ := Array.getElem?_eq_some_iff.1 this
    exact q
  refine ⟨fun j v hj => ?_, by simp, fun i hi => by rw [Array.getElem?_setIfInBounds_ne (by omega)]⟩
  by_cases e : j = k
  · subst e
    rw [List.getElem?_set_self (by omega)] at hj
    rw [Array.getElem?_setIfInBounds_self_of_lt hlt]; exact hj
  · rw [List.getElem?_set_ne (fun q => e q.symm)] at hj
    rw [Array.getElem?_setIfInBounds_ne (by omega)]; exact h j v hj
theorem Own1.offG {w w' : World} {B g : Nat} {cur : Array Value} {x : Hm} (own : Own1 w B x) (row : Row w g cur 39) (o6 : Off (· = g) w w') : Own1 w' B x := own.apart o6 (fun k e => ⟨cur, by rw [e]; exact row⟩)
theorem Noted.same {w w' : World} {B g o : Nat} {cur : Array Value} {x : Hm} {p' : Pt} (row : Row w g cur 39) (hc : ∀ j v, x.o.cells[j]? = some v → cur[o + j]? = some v) (own : Own1 w B x) (hb : Below w.heap.size w w') (e : p' = x.p) : Noted w B g o cur x p' w' :=
  ⟨x, cur, e.symm, row.below hb row.lt, rfl, hc, fun _ _ => rfl, own.keep hb, (Off.of_below (F := fun _ => False) hb).mono (fun k q => q.elim), Or.inl rfl, Or.inl rfl⟩
theorem n_read {w w4 : World} {B g o Z : Nat} {cur : Array Value} {x : Hm} (row : Row w4 g cur 39) (hc : ∀ j v, x.o.cells[j]? = some v → cur[o + j]? = some v) (own : Own1 w4 B x) (h4 : Below w.heap.size w w4) (hB : B ≤ w.heap.size) (pg t : Int) (hZ : Row w4 Z #[.int .u16 pg, .int .u32 t] 46) (hn : x.p.rs.length ≤ 1000) (ty : TypeId) :
    ∃ v' w', (Builtin.append_ #[36, 36] ty #[.slice x.r.a x.r.n x.r.c, .slice (some ⟨Z, 0, none⟩) 1 1]).run Try.prog w4 = .ok v' w' ∧
      ∃ a n c, v' = .slice a n c ∧ Row w' g cur 39 ∧ (∀ Y cs ty, Row w4 Y cs ty → ty ≠ 46 → Row w' Y cs ty) ∧ Noted w B g o cur x { x.p with rs := x.p.rs ++ [(pg, t)] } (w'.setCell ⟨g, o + 3, none⟩ (.slice a n c)) := by
  obtain ⟨v', w', hr, hn', hg, hl⟩ := Sn.Own.snocL own.rs ty Z (sO (pg, t)) hZ (Nat.le_trans hB h4.size) (by simp; omega)
  have Ou : Off (fun k => rb x = some k) w4 w' := Off.of_grown hg (fun k e => e)
  obtain ⟨a, c, hv⟩ := Sn.Own.form hn'
  have rT := row.off Ou (fun e => by
    obtain ⟨cs, hc⟩ := own.rs.cellsOf _ e
    have := row; unfold Row at this; rw [this] at hc; cases hc)
  refine ⟨v', w', hr, a, _, c, hv, rT, fun Y cs ty hY hne => hY.off Ou (fun e => by
    obtain ⟨cs', hc'⟩ := own.rs.cellsOf _ e
    unfold Row at hY; rw [hY] at hc'
    injection hc' with hc'
    injection hc' with _ h3 _
    exact hne h3), ?_⟩
  subst hv
  have o6 : Off (· = g) w' (w'.setCell ⟨g, o + 3, none⟩ (.slice a (x.p.rs.map sO ++ [sO (pg, t)]).length c)) := Off.of_setCell _ _ _ rfl
  obtain ⟨q1, q2, q3⟩ := cells_upd (cs := x.o.cells) rfl hc 3 (by decide) (.slice a (x.p.rs.map sO ++ [sO (pg, t)]).length c)
  refine ⟨⟨{ x.p with rs := x.p.rs ++ [(pg, t)] }, ⟨a, (x.p.rs.map sO ++ [sO (pg, t)]).length, c⟩, x.w⟩, _, rfl, row_set rT (o + 3) _, q2, q1, q3, ⟨?_, ?_⟩, ?_, ?_, Or.inl rfl⟩
  · have := hn'.off o6 (fun b hb e => by
      obtain ⟨cs, hc⟩ := hn'.cellsOf b hb
      have := rT; unfold Row at this; rw [e, this] at hc; cases hc)
    simpa using this
  · have h1 := own.ws.off Ou (fun b hb q => by
      obtain ⟨cs, hc⟩ := own.ws.cellsOf b hb
      obtain ⟨cs', hc'⟩ := own.rs.cellsOf b q
      rw [hc] at hc'; cases hc')
    exact h1.off o6 (fun b hb e => by
      obtain ⟨cs, hc⟩ := h1.cellsOf b hb
      have := rT; unfold Row at this; rw [e, this] at hc; cases hc)
  · exact (((Off.of_below (F := fun _ => False) h4).mono (fun k q => q.elim)).trans Ou (fun k e => Or.inl (Or.inr (Or.inl e)))).trans o6 (fun k e => Or.inl (Or.inl e))
  · rcases hl with hl | hl
    · exact Or.inl hl
    · exact Or.inr ⟨_, hl, h4.size⟩
theorem n_write {w w4 : World} {B g o Z : Nat} {cur : Array Value} {x : Hm} (row : Row w4 g cur 39) (hc : ∀ j v, x.o.cells[j]? = some v → cur[o + j]? = some v) (own : Own1 w4 B x) (h4 : Below w.heap.size w w4) (hB : B ≤ w.heap.size) (pg : Int) (hZ : Row w4 Z #[.int .u16 pg] 44) (hn : x.p.ws.length ≤ 1000) (ty : TypeId) :
    ∃ v' w', (Builtin.append_ #[37, 37] ty #[.slice x.w.a x.w.n x.w.c, .slice (some ⟨Z, 0, none⟩) 1 1]).run Try.prog w4 = .ok v' w' ∧
      ∃ a n c, v' = .slice a n c ∧ Row w' g cur 39 ∧ (∀ Y cs ty, Row w4 Y cs ty → ty ≠ 44 → Row w' Y cs ty) ∧ Noted w B g o cur x { x.p with ws := x.p.ws ++ [pg] } (w'.setCell ⟨g, o + 4, none⟩ (.slice a n c)) := by
  obtain ⟨v', w', hr, hn', hg, hl⟩ := Pg.Own.snocL own.ws ty Z (gO pg) hZ (Nat.le_trans hB h4.size) (by simp; omega)
  have Ou : Off (fun k => wb x = some k) w4 w' := Off.of_grown hg (fun k e => e)
  obtain ⟨a, c, hv⟩ := Pg.Own.form hn'
  have rT := row.off Ou (fun e => by
    obtain ⟨cs, hc⟩ := own.ws.cellsOf _ e
    have := row; unfold Row at this; rw [this] at hc; cases hc)
  refine ⟨v', w', hr, a, _, c, hv, rT, fun Y cs ty hY hne => hY.off Ou (fun e => by
    obtain ⟨cs', hc'⟩ := own.ws.cellsOf _ e
    unfold Row at hY; rw [hY] at hc'
    injection hc' with hc'
    injection hc' with _ h3 _
    exact hne h3), ?_⟩
  subst hv
  have o6 : Off (· = g) w' (w'.setCell ⟨g, o + 4, none⟩ (.slice a (x.p.ws.map gO ++ [gO pg]).length c)) := Off.of_setCell _ _ _ rfl
  obtain ⟨q1, q2, q3⟩ := cells_upd (cs := x.o.cells) rfl hc 4 (by decide) (.slice a (x.p.ws.map gO ++ [gO pg]).length c)
  refine ⟨⟨{ x.p with ws := x.p.ws ++ [pg] }, x.r, ⟨a, (x.p.ws.map gO ++ [gO pg]).length, c⟩⟩, _, rfl, row_set rT (o + 4) _, q2, q1, q3, ⟨?_, ?_⟩, ?_, Or.inl rfl, ?_⟩
  · have h1 := own.rs.off Ou (fun b hb q => by
      obtain ⟨cs, hc⟩ := own.rs.cellsOf b hb
      obtain ⟨cs', hc'⟩ := own.ws.cellsOf b q
      rw [hc] at hc'; cases hc')
    exact h1.off o6 (fun b hb e => by
      obtain ⟨cs, hc⟩ := h1.cellsOf b hb
      have := rT; unfold Row at this; rw [e, this] at hc; cases hc)
  · have := hn'.off o6 (fun b hb e => by
      obtain ⟨cs, hc⟩ := hn'.cellsOf b hb
      have := rT; unfold Row at this; rw [e, this] at hc; cases hc)
    simpa using this
  · exact (((Off.of_below (F := fun _ => False) h4).mono (fun k q => q.elim)).trans Ou (fun k e => Or.inl (Or.inr (Or.inr e)))).trans o6 (fun k e => Or.inl (Or.inl e))
  · rcases hl with hl | hl
    · exact Or.inl hl
    · exact Or.inr ⟨_, hl, h4.size⟩
theorem n_done {w w4 : World} {B g o : Nat} {cur : Array Value} {x : Hm} (row : Row w4 g cur 39) (hc : ∀ j v, x.o.cells[j]? = some v → cur[o + j]? = some v) (own : Own1 w4 B x) (h4 : Below w.heap.size w w4) :
    Noted w B g o cur x { x.p with dn := true } (w4.setCell ⟨g, o + 2, none⟩ (.bool true)) ∧ ∀ t, Noted w B g o cur x { x.p with dn := true, co := t } ((w4.setCell ⟨g, o + 2, none⟩ (.bool true)).setCell ⟨g, o + 1, none⟩ (.int .u32 t)) := by
  have o6 : Off (· = g) w4 (w4.setCell ⟨g, o + 2, none⟩ (.bool true)) := Off.of_setCell _ _ _ rfl
  have o0 : Off (fun k => k = g ∨ rb x = some k ∨ wb x = some k) w w4 := (Off.of_below (F := fun _ => False) h4).mono (fun k q => q.elim)
  obtain ⟨q1, q2, q3⟩ := cells_upd (cs := x.o.cells) rfl hc 2 (by decide) (.bool true)
  refine ⟨⟨⟨{ x.p with dn := true }, x.r, x.w⟩, _, rfl, row_set row (o + 2) _, q2, q1, q3, ⟨(own.offG row o6).rs, (own.offG row o6).ws⟩, o0.trans o6 (fun k e => Or.inl (Or.inl e)), Or.inl rfl, Or.inl rfl⟩, fun t => ?_⟩
  have o7 : Off (· = g) (w4.setCell ⟨g, o + 2, none⟩ (.bool true)) ((w4.setCell ⟨g, o + 2, none⟩ (.bool true)).setCell ⟨g, o + 1, none⟩ (.int .u32 t)) := Off.of_setCell _ _ _ rfl
  have r2 := row_set row (o + 2) (.bool true)
  obtain ⟨q4, q5, q6⟩ := cells_upd (by simp [Pa.O.cells]) q1 1 (by decide) (.int .u32 t)
  exact ⟨⟨{ x.p with dn := true, co := t }, x.r, x.w⟩, _, rfl, row_set r2 (o + 1) _, q5.trans q2, q4, fun i hi => (q6 i hi).trans (q3 i hi), ⟨((own.offG row o6).offG r2 o7).rs, ((own.offG row o6).offG r2 o7).ws⟩, (o0.trans o6 (fun k e => Or.inl (Or.inl e))).trans o7 (fun k e => Or.inl (Or.inl e)), Or.inl rfl, Or.inl rfl⟩
end Go.Proofs.Ytdlllnkcjfpajaa
namespace Go.Proofs.Ytdlllnkcjfpajaa
open Go.ChangeShapes Go.WideShapes Go.ChangeAt Go.RowKit
set_option linter.unusedVariables false
set_option linter.unusedSimpArgs false
set_option maxRecDepth 20000
theorem Noted.here {w w' : World} {B g o : Nat} {cur : Array Value} {x : Hm} {p' : Pt} (row : Row w' g cur 39) (hc : ∀ j v, x.o.cells[j]? = some v → cur[o + j]? = some v) (own : Own1 w' B x) (hb : Below w.heap.size w w') (e : p' = x.p) : Noted w B g o cur x p' w' :=
  ⟨x, cur, e.symm, row, rfl, hc, fun _ _ => rfl, own, (Off.of_below (F := fun _ => False) hb).mono (fun k q => q.elim), Or.inl rfl, Or.inl rfl⟩
set_option maxHeartbeats 8000000 in
theorem note_any {w : World} {B g o : Nat} {cur : Array Value} {x : Hm} (row : Row w g cur 39) (hc : ∀ j v, x.o.cells[j]? = some v → cur[o + j]? = some v) (own : Own1 w B x) (hB : B ≤ w.heap.size) (hr9 : x.p.rs.length ≤ 1000) (hw9 : x.p.ws.length ≤ 1000) (t : Tl) (n4 : Int) (s5 : ByteArray) :
    Calls Try.prog 32 #[.pointer (some ⟨g, o, none⟩), .agg #[.int .u8 t.kind, .int .u64 t.txn, .int .u16 t.page, .int .i64 n4, .string s5], .int .u32 t.rts] w fun e w' => e = .returned (.tuple #[]) ∧ Noted w B g o cur x (noteP x.p t) w' := by
  have HFO : Hid (∀ w', Noted w B g o cur x (noteP x.p t) w' → (fun e w' => e = Ending.returned (.tuple #[]) ∧ Noted w B g o cur x (noteP x.p t) w') (.returned (.tuple #[])) w') := fun w' h => ⟨rfl, h⟩
  generalize (fun e w' => e = Ending.returned (.tuple #[]) ∧ Noted w B g o cur x (noteP x.p t) w') = PP at HFO ⊢
  obtain ⟨kt, HKT⟩ : ∃ kt, Hid (t.kind = kt) := ⟨_, rfl⟩
  obtain ⟨xt, HXT⟩ : ∃ kt, Hid (t.txn = kt) := ⟨_, rfl⟩
  obtain ⟨pt, HPT⟩ : ∃ kt, Hid (t.page = kt) := ⟨_, rfl⟩
  obtain ⟨st, HST⟩ : ∃ kt, Hid (t.rts = kt) := ⟨_, rfl⟩
  rw [HKT.out, HXT.out, HPT.out, HST.out]
  have b1 : Below w.heap.size w (w.alloc (.cells #[.int .u8 kt, .int .u64 xt, .int .u16 pt, .int .i64 n4, .string s5] 58)) := (Below.refl _ _).alloc (Nat.le_refl _) _
  have rZ : Row (w.alloc (.cells #[.int .u8 kt, .int .u64 xt, .int .u16 pt, .int .i64 n4, .string s5] 58)) w.heap.size #[.int .u8 kt, .int .u64 xt, .int .u16 pt, .int .i64 n4, .string s5] 58 := Row.new _ _ _
  have row1 := row.below b1 row.lt
  have own1 := own.keep b1
  obtain ⟨ra, HRA⟩ : ∃ v, Hid (x.r.a = v) := ⟨_, rfl⟩
  obtain ⟨rn, HRN⟩ : ∃ v, Hid (x.r.n = v) := ⟨_, rfl⟩
  obtain ⟨rc, HRC⟩ : ∃ v, Hid (x.r.c = v) := ⟨_, rfl⟩
  obtain ⟨wa, HWA⟩ : ∃ v, Hid (x.w.a = v) := ⟨_, rfl⟩
  obtain ⟨wn, HWN⟩ : ∃ v, Hid (x.w.n = v) := ⟨_, rfl⟩
  obtain ⟨wc, HWC⟩ : ∃ v, Hid (x.w.c = v) := ⟨_, rfl⟩
  have HCC : Hid (∀ j v, x.o.cells[j]? = some v → cur[o + j]? = some v) := hc
  have HC4 : Hid (∀ w' : World, Row w' g cur 39 → w'.cell? ⟨g, o + 4, none⟩ = some (.slice wa wn wc)) := fun w' r => by
    rw [cell_of_row _ _ _ _ _ _ r, ← HWA.out, ← HWN.out, ← HWC.out]; exact HCC.out 4 _ rfl
  have HC3 : Hid (∀ w' : World, Row w' g cur 39 → w'.cell? ⟨g, o + 3, none⟩ = some (.slice ra rn rc)) := fun w' r => by
    rw [cell_of_row _ _ _ _ _ _ r, ← HRA.out, ← HRN.out, ← HRC.out]; exact HCC.out 3 _ rfl
  have HC2 : Hid (∀ w' : World, Row w' g cur 39 → w'.cell? ⟨g, o + 2, none⟩ = some (.bool x.p.dn)) := fun w' r => by
    rw [cell_of_row _ _ _ _ _ _ r]; exact HCC.out 2 _ rfl
  have HC1 : Hid (∀ w' : World, Row w' g cur 39 → w'.cell? ⟨g, o + 1, none⟩ = some (.int .u32 x.p.co)) := fun w' r => by
    rw [cell_of_row _ _ _ _ _ _ r]; exact HCC.out 1 _ rfl
  have HHB : Hid (B ≤ w.heap.size) := hB
  have HR9 : Hid (x.p.rs.length ≤ 1000) := hr9
  have HW9 : Hid (x.p.ws.length ≤ 1000) := hw9
  obtain ⟨bm, HBM⟩ : ∃ bm, Hid (bm = true ↔ pt ∈ x.p.ws) := by
    by_cases q : pt ∈ x.p.ws
    · exact ⟨true, ⟨fun _ => q, fun _ => rfl⟩⟩
    · exact ⟨false, ⟨(fun q' => by cases q'), fun q' => absurd q' q⟩⟩
  clear hc hB hr9 hw9 row own
  go_enter Try.func32, Try.ntmps32
  go_upto_region 1 with fail
  generalize w.alloc (.cells #[.int .u8 kt, .int .u64 xt, .int .u16 pt, .int .i64 n4, .string s5] 58) = w1 at b1 rZ row1 own1 ⊢
  generalize w.heap.size = Z at rZ ⊢
  have c4 := HC4.out w1 row1
  have hcon : Calls Try.prog 53 #[.slice wa wn wc, .int .u16 pt] w1.drew fun e w' => e = .returned (.bool bm) ∧ Below w1.drew.heap.size w1.drew w' := by
    have h0 : Pg.Olds w1.drew (.slice wa wn wc) (x.p.ws.map gO) := by
      rw [← HWA.out, ← HWN.out, ← HWC.out]; exact (own1.keep (Below.refl _ _).drew).ws.olds
    have h1 := contains_any (s := ⟨wa, wn, wc⟩) h0 HW9.out pt
    cases bm with
    | true => exact Says.calls_yes h1 (HBM.out.1 rfl)
    | false => exact Says.calls_no h1 (fun q => by have := HBM.out.2 q; cases this)
  refine wp_region_held_drew (S := fun w' => Row w' Z #[.int .u8 kt, .int .u64 xt, .int .u16 pt, .int .i64 n4, .string s5] 58 ∧ w'.cell? ⟨g, o + 4, none⟩ = some (.slice wa wn wc)) (by kernel_rfl) ⟨rZ, c4⟩ fun hS => ?_
  refine tkH (i := 0) (v := .pointer (some ⟨g, o, none⟩)) rfl (by kernel_rfl) (fun _ _ _ h => h) (Or.inl ⟨by rfl, fun w _ => by go_simp⟩) hS ?_
  try simp only [Act.put, nz0, nz1, nz2, nz3, nz4, nz5]
  refine tkH (i := 1) (v := .pointer (some ⟨g, o, none⟩)) rfl (by kernel_rfl) (fun _ _ _ h => h) (Or.inl ⟨by rfl, fun w _ => by go_simp⟩) hS ?_
  try simp only [Act.put, nz0, nz1, nz2, nz3, nz4, nz5]
  refine tkH (i := 2) (v := .pointer (some ⟨g, o + 4, none⟩)) rfl (by kernel_rfl) (fun _ _ _ h => h) (Or.inl ⟨by rfl, fun w _ => by go_simp⟩) hS ?_
  try simp only [Act.put, nz0, nz1, nz2, nz3, nz4, nz5]
  refine tkH (i := 3) (v := .slice wa wn wc) rfl (by kernel_rfl) (fun _ _ _ h => h) (Or.inl ⟨by rfl, fun w h => by have c := h.2; go_simp⟩) hS ?_
  try simp only [Act.put, nz0, nz1, nz2, nz3, nz4, nz5]
  refine tkH (i := 4) (v := .pointer (some ⟨Z, 2, none⟩)) rfl (by kernel_rfl) (fun _ _ _ h => h) (Or.inl ⟨by rfl, fun w _ => by go_simp⟩) hS ?_
  try simp only [Act.put, nz0, nz1, nz2, nz3, nz4, nz5]
  refine tkH (i := 5) (v := .int .u16 pt) rfl (by kernel_rfl) (fun _ _ _ h => h) (Or.inl ⟨by rfl, fun w h => by have c := row_at h.1 2 _ rfl; go_simp⟩) hS ?_
  try simp only [Act.put, nz0, nz1, nz2, nz3, nz4, nz5]
  refine wpAnyH_ready (rs := [6]) (by kernel_rfl) (by simp) ?_
  refine AllReadyH.cons rfl (fun K hK => ?_) AllReadyH.nil
  go_simp
  go_at_call 53
  refine Calls.mono hcon ?_
  clear hcon
  rintro e w2 ⟨he, hb2⟩
  obtain rfl := he
  have hb12 : Below w1.heap.size w1 w2 := below_trans (Below.refl _ _).drew hb2
  have rZ2 := rZ.below hb12 rZ.lt
  have row2 := row1.below hb12 row1.lt
  have own2 := own1.keep hb12
  have b2 : Below w.heap.size w w2 := below_trans b1 hb12
  refine hK.out _ _ ⟨rZ2, HC4.out w2 row2⟩ fun hS => ?_
  try simp only [Act.put, nz0, nz1, nz2, nz3, nz4, nz5]
  refine tkH (i := 7) (v := .bool bm) rfl (by kernel_rfl) (fun _ _ _ h => h) (Or.inl ⟨by rfl, fun w _ => by go_simp⟩) hS ?_
  try simp only [Act.put, nz0, nz1, nz2, nz3, nz4, nz5]
  refine wpAnyH_done (by kernel_rfl) ?_ _
  clear hS c4 rZ row1 own1 b1 hb2 hb12
  have d0 : w2.cell? ⟨Z, 0, none⟩ = some (.int .u8 kt) := row_at rZ2 0 _ rfl
  have HB2 : Hid (Below w.heap.size w w2) := b2
  have HR2 : Hid (Row w2 g cur 39) := row2
  have HO2 : Hid (Own1 w2 B x) := own2
  have HZ2 : Hid (Row w2 Z #[.int .u8 kt, .int .u64 xt, .int .u16 pt, .int .i64 n4, .string s5] 58) := rZ2
  clear b2 row2 own2
  by_cases h1 : kt = 1
  · have hb1 : (kt == 1) = true := by simp [h1]
    have H1 : Hid (kt = 1) := h1
    clear h1
    cases bm with
    | true =>
      have HM2 : Hid (pt ∈ x.p.ws) := HBM.out.1 rfl
      have HN1 : Hid (noteP x.p t = x.p) := by show _ = _; simp [noteP, HKT.out, H1.out, HPT.out, HM2.out]
      have hfin := HFO.out w2 (Noted.here HR2.out HCC.out HO2.out HB2.out HN1.out)
      clear HBM rZ2
      go_wp2
      go_end0
      exact hfin
    | false =>
      have HM2 : Hid (¬ pt ∈ x.p.ws) := fun q => by have := HBM.out.2 q; cases this
      have HN1 : Hid (noteP x.p t = { x.p with rs := x.p.rs ++ [(pt, st)] }) := by show _ = _; simp [noteP, HKT.out, H1.out, HPT.out, HST.out, HM2.out]
      clear HBM
      go_upto_region 5 with fail
      clear d0
      have c3 := HC3.out w2 HR2.out
      refine wp_region_last (S := fun w' => Row w' Z #[.int .u8 kt, .int .u64 xt, .int .u16 pt, .int .i64 n4, .string s5] 58 ∧ w'.cell? ⟨g, o + 3, none⟩ = some (.slice ra rn rc)) 13 (by kernel_rfl) ⟨rZ2, c3⟩ fun hS => ?_
      refine wpAnyL_take (i := 0) (v := .pointer (some ⟨g, o, none⟩)) rfl (by kernel_rfl) (by kernel_rfl) (by kernel_rfl) (by kernel_rfl) (fun _ _ _ h => h) (Or.inl ⟨by rfl, fun w _ => by go_simp⟩) hS ?_
      try simp only [Act.put, nz0, nz1, nz2, nz3, nz4, nz5]
      refine wpAnyL_take (i := 1) (v := .pointer (some ⟨g, o, none⟩)) rfl (by kernel_rfl) (by kernel_rfl) (by kernel_rfl) (by kernel_rfl) (fun _ _ _ h => h) (Or.inl ⟨by rfl, fun w _ => by go_simp⟩) hS ?_
      try simp only [Act.put, nz0, nz1, nz2, nz3, nz4, nz5]
      refine wpAnyL_take (i := 2) (v := .pointer (some ⟨g, o, none⟩)) rfl (by kernel_rfl) (by kernel_rfl) (by kernel_rfl) (by kernel_rfl) (fun _ _ _ h => h) (Or.inl ⟨by rfl, fun w _ => by go_simp⟩) hS ?_
      try simp only [Act.put, nz0, nz1, nz2, nz3, nz4, nz5]
      refine wpAnyL_take (i := 3) (v := .pointer (some ⟨g, o + 3, none⟩)) rfl (by kernel_rfl) (by kernel_rfl) (by kernel_rfl) (by kernel_rfl) (fun _ _ _ h => h) (Or.inl ⟨by rfl, fun w _ => by go_simp⟩) hS ?_
      try simp only [Act.put, nz0, nz1, nz2, nz3, nz4, nz5]
      refine wpAnyL_take (i := 4) (v := .slice ra rn rc) rfl (by kernel_rfl) (by kernel_rfl) (by kernel_rfl) (by kernel_rfl) (fun _ _ _ h => h) (Or.inl ⟨by rfl, fun w h => by have c := h.2; go_simp⟩) hS ?_
      try simp only [Act.put, nz0, nz1, nz2, nz3, nz4, nz5]
      refine wpAnyL_take (i := 5) (v := .pointer (some ⟨Z, 2, none⟩)) rfl (by kernel_rfl) (by kernel_rfl) (by kernel_rfl) (by kernel_rfl) (fun _ _ _ h => h) (Or.inl ⟨by rfl, fun w _ => by go_simp⟩) hS ?_
      try simp only [Act.put, nz0, nz1, nz2, nz3, nz4, nz5]
      refine wpAnyL_take (i := 6) (v := .int .u16 pt) rfl (by kernel_rfl) (by kernel_rfl) (by kernel_rfl) (by kernel_rfl) (fun _ _ _ h => h) (Or.inl ⟨by rfl, fun w h => by have c := row_at h.1 2 _ rfl; go_simp⟩) hS ?_
      try simp only [Act.put, nz0, nz1, nz2, nz3, nz4, nz5]
      refine wpAnyL_take (i := 7) (v := .int .u32 st) rfl (by kernel_rfl) (by kernel_rfl) (by kernel_rfl) (by kernel_rfl) (fun _ _ _ h => h) (Or.inl ⟨by rfl, fun w _ => by go_simp⟩) hS ?_
      try simp only [Act.put, nz0, nz1, nz2, nz3, nz4, nz5]
      refine wpAnyL_take (i := 8) (v := .agg #[.int .u16 pt, .int .u32 st]) rfl (by kernel_rfl) (by kernel_rfl) (by kernel_rfl) (by kernel_rfl) (fun _ _ _ h => h) (yields_build (by rfl) 46 #[(0, .tmp 26), (1, .tmp 27)] rfl [(0, .int .u16 pt), (1, .int .u32 st)] (by rfl) _ (built46p _ _)) hS ?_
      try simp only [Act.put, nz0, nz1, nz2, nz3, nz4, nz5]
      refine wpAnyL_ready (rs := [9]) (by kernel_rfl) (by simp) ?_
      have b4 : Below w2.heap.size w2 (w2.alloc (.cells #[.int .u16 pt, .int .u32 st] 46)).drew := ((Below.refl _ _).alloc (Nat.le_refl _) _).drew
      have r4 : Row (w2.alloc (.cells #[.int .u16 pt, .int .u32 st] 46)).drew g cur 39 := HR2.out.below b4 HR2.out.lt
      have z4 : Row (w2.alloc (.cells #[.int .u16 pt, .int .u32 st] 46)).drew Z #[.int .u8 kt, .int .u64 xt, .int .u16 pt, .int .i64 n4, .string s5] 58 := rZ2.below b4 rZ2.lt
      have hS4 := (show Row (w2.alloc (.cells #[.int .u16 pt, .int .u32 st] 46)).drew Z #[.int .u8 kt, .int .u64 xt, .int .u16 pt, .int .i64 n4, .string s5] 58 ∧ (w2.alloc (.cells #[.int .u16 pt, .int .u32 st] 46)).drew.cell? ⟨g, o + 3, none⟩ = some (.slice ra rn rc) from ⟨z4, HC3.out _ r4⟩)
      have HAP : Hid _ := fun ty => n_read (w := w) r4 HCC.out (HO2.out.keep b4) (below_trans HB2.out b4) HHB.out pt st (Row.new w2 _ _) HR9.out ty
      rw [HRA.out, HRN.out, HRC.out] at HAP
      refine AllReadyL.cons rfl (fun K hK => step_of rfl (wp_seen (.tmp 28) rfl pt st rfl (hK.out _ _ (fun _ => hS4) ?_))) AllReadyL.nil
      try simp only [Act.put, nz0, nz1, nz2, nz3, nz4, nz5]
      rw [show w2.drew.alloc (.cells #[.int .u16 pt, .int .u32 st] 46) = (w2.alloc (.cells #[.int .u16 pt, .int .u32 st] 46)).drew from rfl]
      generalize (w2.alloc (.cells #[.int .u16 pt, .int .u32 st] 46)).drew = w4 at z4 HAP r4 ⊢
      clear c3 b4 hS hS4 r4
      refine wpAnyL_ready (rs := [10]) (by kernel_rfl) (by simp) ?_
      refine AllReadyL.cons rfl (fun K hK => step_of rfl (Us.wp_copy (.tmp 24) (.tmp 29) 36 rfl _ _ rfl rfl (T := fun v' w' => ∃ a n c, v' = Value.slice a n c ∧ Row w' g cur 39 ∧ (∀ Y cs ty, Row w4 Y cs ty → ty ≠ 46 → Row w' Y cs ty) ∧ Noted w B g o cur x { x.p with rs := x.p.rs ++ [(pt, st)] } (w'.setCell ⟨g, o + 3, none⟩ (.slice a n c))) (fun ty => HAP.out ty) ?_)) AllReadyL.nil
      rintro _ w5 ⟨a5, n5, c5, rfl, row5, hk5, hN5⟩
      have z5 := hk5 _ _ _ z4 (by decide)
      have hS5 := (show Row w5 Z #[.int .u8 kt, .int .u64 xt, .int .u16 pt, .int .i64 n4, .string s5] 58 ∧ w5.cell? ⟨g, o + 3, none⟩ = some (.slice ra rn rc) from ⟨z5, HC3.out _ row5⟩)
      have fz5 : w5.frozen? ⟨g, o + 3, none⟩ = false := row_frozen row5 _
      have c53 := HC3.out _ row5
      have hfin := HFO.out _ (by rw [HN1.out]; exact hN5)
      clear row5 hk5 hN5 z5 HAP z4
      refine hK.out _ _ (fun _ => hS5) ?_
      try simp only [Act.put, nz0, nz1, nz2, nz3, nz4, nz5]
      refine wpAnyL_ready (rs := [11]) (by kernel_rfl) (by simp) ?_
      refine AllReadyL.cons rfl (fun K hK => ?_) AllReadyL.nil
      go_simp
      refine hK.out _ _ (fun _ => hS5) ?_
      try simp only [Act.put, nz0, nz1, nz2, nz3, nz4, nz5]
      refine wpAnyL_ready (rs := [12]) (by kernel_rfl) (by simp) ?_
      refine AllReadyL.cons rfl (fun K hK => ?_) AllReadyL.nil
      go_simp
      refine hK.out _ _ (fun _ => hS5) ?_
      try simp only [Act.put, nz0, nz1, nz2, nz3, nz4, nz5]
      refine wpAnyL_ready (rs := [13]) (by kernel_rfl) (by simp) ?_
      refine AllReadyL.cons rfl (fun K hK => ?_) AllReadyL.nil
      clear hS5
      go_simp
      refine hK.out _ _ (fun q => absurd rfl q) ?_
      try simp only [Act.put, nz0, nz1, nz2, nz3, nz4, nz5]
      refine wpAnyL_done (by kernel_rfl) ?_ _
      clear c53 fz5
      go_wp2
      go_end0
      exact hfin
  · have k1' : (kt == 1) = false := by simp [h1]
    by_cases h2 : kt = 2
    · have hb2 : (kt == 2) = true := by simp [h2]
      have H2 : Hid (kt = 2) := h2
      clear h2
      cases bm with
      | true =>
        have HM2 : Hid (pt ∈ x.p.ws) := HBM.out.1 rfl
        have HN1 : Hid (noteP x.p t = x.p) := by show _ = _; simp [noteP, HKT.out, H2.out, HPT.out, HM2.out]
        have hfin := HFO.out w2 (Noted.here HR2.out HCC.out HO2.out HB2.out HN1.out)
        clear HBM rZ2
        go_wp2
        go_end0
        exact hfin
      | false =>
        have HM2 : Hid (¬ pt ∈ x.p.ws) := fun q => by have := HBM.out.2 q; cases this
        have HN1 : Hid (noteP x.p t = { x.p with ws := x.p.ws ++ [pt] }) := by show _ = _; simp [noteP, HKT.out, H2.out, HPT.out, HST.out, HM2.out]
        clear HBM
        go_upto_region 8 with fail
        clear d0
        have c4 := HC4.out w2 HR2.out
        refine wp_region_last (S := fun w' => Row w' Z #[.int .u8 kt, .int .u64 xt, .int .u16 pt, .int .i64 n4, .string s5] 58 ∧ w'.cell? ⟨g, o + 4, none⟩ = some (.slice wa wn wc)) 11 (by kernel_rfl) ⟨rZ2, c4⟩ fun hS => ?_
        refine wpAnyL_take (i := 0) (v := .pointer (some ⟨g, o, none⟩)) rfl (by kernel_rfl) (by kernel_rfl) (by kernel_rfl) (by kernel_rfl) (fun _ _ _ h => h) (Or.inl ⟨by rfl, fun w _ => by go_simp⟩) hS ?_
        try simp only [Act.put, nz0, nz1, nz2, nz3, nz4, nz5]
        refine wpAnyL_take (i := 1) (v := .pointer (some ⟨g, o, none⟩)) rfl (by kernel_rfl) (by kernel_rfl) (by kernel_rfl) (by kernel_rfl) (fun _ _ _ h => h) (Or.inl ⟨by rfl, fun w _ => by go_simp⟩) hS ?_
        try simp only [Act.put, nz0, nz1, nz2, nz3, nz4, nz5]
        refine wpAnyL_take (i := 2) (v := .pointer (some ⟨g, o, none⟩)) rfl (by kernel_rfl) (by kernel_rfl) (by kernel_rfl) (by kernel_rfl) (fun _ _ _ h => h) (Or.inl ⟨by rfl, fun w _ => by go_simp⟩) hS ?_
        try simp only [Act.put, nz0, nz1, nz2, nz3, nz4, nz5]
        refine wpAnyL_take (i := 3) (v := .pointer (some ⟨g, o + 4, none⟩)) rfl (by kernel_rfl) (by kernel_rfl) (by kernel_rfl) (by kernel_rfl) (fun _ _ _ h => h) (Or.inl ⟨by rfl, fun w _ => by go_simp⟩) hS ?_
        try simp only [Act.put, nz0, nz1, nz2, nz3, nz4, nz5]
        refine wpAnyL_take (i := 4) (v := .slice wa wn wc) rfl (by kernel_rfl) (by kernel_rfl) (by kernel_rfl) (by kernel_rfl) (fun _ _ _ h => h) (Or.inl ⟨by rfl, fun w h => by have c := h.2; go_simp⟩) hS ?_
        try simp only [Act.put, nz0, nz1, nz2, nz3, nz4, nz5]
        refine wpAnyL_take (i := 5) (v := .pointer (some ⟨Z, 2, none⟩)) rfl (by kernel_rfl) (by kernel_rfl) (by kernel_rfl) (by kernel_rfl) (fun _ _ _ h => h) (Or.inl ⟨by rfl, fun w _ => by go_simp⟩) hS ?_
        try simp only [Act.put, nz0, nz1, nz2, nz3, nz4, nz5]
        refine wpAnyL_take (i := 6) (v := .int .u16 pt) rfl (by kernel_rfl) (by kernel_rfl) (by kernel_rfl) (by kernel_rfl) (fun _ _ _ h => h) (Or.inl ⟨by rfl, fun w h => by have c := row_at h.1 2 _ rfl; go_simp⟩) hS ?_
        try simp only [Act.put, nz0, nz1, nz2, nz3, nz4, nz5]
        refine wpAnyL_ready (rs := [7]) (by kernel_rfl) (by simp) ?_
        refine AllReadyL.cons rfl (fun K hK => ?_) AllReadyL.nil
        have b4 : Below w2.heap.size w2 (w2.alloc (.cells #[.int .u16 pt] 44)).drew := ((Below.refl _ _).alloc (Nat.le_refl _) _).drew
        have r4 : Row (w2.alloc (.cells #[.int .u16 pt] 44)).drew g cur 39 := HR2.out.below b4 HR2.out.lt
        have z4 : Row (w2.alloc (.cells #[.int .u16 pt] 44)).drew Z #[.int .u8 kt, .int .u64 xt, .int .u16 pt, .int .i64 n4, .string s5] 58 := rZ2.below b4 rZ2.lt
        have hS4 := (show Row (w2.alloc (.cells #[.int .u16 pt] 44)).drew Z #[.int .u8 kt, .int .u64 xt, .int .u16 pt, .int .i64 n4, .string s5] 58 ∧ (w2.alloc (.cells #[.int .u16 pt] 44)).drew.cell? ⟨g, o + 4, none⟩ = some (.slice wa wn wc) from ⟨z4, HC4.out _ r4⟩)
        have HAP : Hid _ := fun ty => n_write (w := w) r4 HCC.out (HO2.out.keep b4) (below_trans HB2.out b4) HHB.out pt (Row.new w2 _ _) HW9.out ty
        rw [HWA.out, HWN.out, HWC.out] at HAP
        go_simp
        refine hK.out _ _ (fun _ => hS4) ?_
        try simp only [Act.put, nz0, nz1, nz2, nz3, nz4, nz5]
        generalize (w2.alloc (.cells #[.int .u16 pt] 44)).drew = w4 at z4 HAP r4 ⊢
        clear c4 b4 hS hS4 r4
        refine wpAnyL_ready (rs := [8]) (by kernel_rfl) (by simp) ?_
        refine AllReadyL.cons rfl (fun K hK => step_of rfl (Us.wp_copy (.tmp 41) (.tmp 44) 37 rfl _ _ rfl rfl (T := fun v' w' => ∃ a n c, v' = Value.slice a n c ∧ Row w' g cur 39 ∧ (∀ Y cs ty, Row w4 Y cs ty → ty ≠ 44 → Row w' Y cs ty) ∧ Noted w B g o cur x { x.p with ws := x.p.ws ++ [pt] } (w'.setCell ⟨g, o + 4, none⟩ (.slice a n c))) (fun ty => HAP.out ty) ?_)) AllReadyL.nil
        rintro _ w5 ⟨a5, n5, c5, rfl, row5, hk5, hN5⟩
        have z5 := hk5 _ _ _ z4 (by decide)
        have hS5 := (show Row w5 Z #[.int .u8 kt, .int .u64 xt, .int .u16 pt, .int .i64 n4, .string s5] 58 ∧ w5.cell? ⟨g, o + 4, none⟩ = some (.slice wa wn wc) from ⟨z5, HC4.out _ row5⟩)
        have fz5 : w5.frozen? ⟨g, o + 4, none⟩ = false := row_frozen row5 _
        have c53 := HC4.out _ row5
        have hfin := HFO.out _ (by rw [HN1.out]; exact hN5)
        clear row5 hk5 hN5 z5 HAP z4
        refine hK.out _ _ (fun _ => hS5) ?_
        try simp only [Act.put, nz0, nz1, nz2, nz3, nz4, nz5]
        refine wpAnyL_ready (rs := [9]) (by kernel_rfl) (by simp) ?_
        refine AllReadyL.cons rfl (fun K hK => ?_) AllReadyL.nil
        go_simp
        refine hK.out _ _ (fun _ => hS5) ?_
        try simp only [Act.put, nz0, nz1, nz2, nz3, nz4, nz5]
        refine wpAnyL_ready (rs := [10]) (by kernel_rfl) (by simp) ?_
        refine AllReadyL.cons rfl (fun K hK => ?_) AllReadyL.nil
        go_simp
        refine hK.out _ _ (fun _ => hS5) ?_
        try simp only [Act.put, nz0, nz1, nz2, nz3, nz4, nz5]
        refine wpAnyL_ready (rs := [11]) (by kernel_rfl) (by simp) ?_
        refine AllReadyL.cons rfl (fun K hK => ?_) AllReadyL.nil
        clear hS5
        go_simp
        refine hK.out _ _ (fun q => absurd rfl q) ?_
        try simp only [Act.put, nz0, nz1, nz2, nz3, nz4, nz5]
        refine wpAnyL_done (by kernel_rfl) ?_ _
        clear c53 fz5
        go_wp2
        go_end0
        exact hfin
    · have k2' : (kt == 2) = false := by simp [h2]
      by_cases h3 : kt = 3
      · have hb3 : (kt == 3) = true := by simp [h3]
        have H3 : Hid (kt = 3) := h3
        clear h3
        have HS2 : Hid (wn = x.p.ws.length) := by show _ = _; rw [← HWN.out]; exact (own_page HO2.out.ws).1
        obtain ⟨n1, n2⟩ := n_done (w := w) HR2.out HCC.out HO2.out HB2.out
        have c2 := HC2.out w2 HR2.out
        have fz2 : w2.frozen? ⟨g, o + 2, none⟩ = false := row_frozen HR2.out _
        have HQ1 : Hid (Noted w B g o cur x { x.p with dn := true } (w2.setCell ⟨g, o + 2, none⟩ (.bool true))) := n1
        have HQ2 : Hid (∀ t, Noted w B g o cur x { x.p with dn := true, co := t } ((w2.setCell ⟨g, o + 2, none⟩ (.bool true)).setCell ⟨g, o + 1, none⟩ (.int .u32 t))) := n2
        have r3 := row_set HR2.out (o + 2) (.bool true)
        have HC43 : Hid ((w2.setCell ⟨g, o + 2, none⟩ (.bool true)).cell? ⟨g, o + 4, none⟩ = some (.slice wa wn wc)) := by
          show _ = _
          rw [cell_of_row _ _ _ _ _ _ r3, Array.getElem?_setIfInBounds_ne (by omega), ← HWA.out, ← HWN.out, ← HWC.out]; exact HCC.out 4 _ rfl
        have HC13 : Hid ((w2.setCell ⟨g, o + 2, none⟩ (.bool true)).cell? ⟨g, o + 1, none⟩ = some (.int .u32 x.p.co)) := by
          show _ = _
          rw [cell_of_row _ _ _ _ _ _ r3, Array.getElem?_setIfInBounds_ne (by omega)]; exact HCC.out 1 _ rfl
        have HF13 : Hid ((w2.setCell ⟨g, o + 2, none⟩ (.bool true)).frozen? ⟨g, o + 1, none⟩ = false) := row_frozen r3 _
        clear n1 n2 r3 HBM
        go_upto_region 11 with fail
        clear c2 fz2 d0 rZ2
        generalize w2.setCell ⟨g, o + 2, none⟩ (.bool true) = w3 at HQ1 HQ2 HC43 HC13 HF13 ⊢
        have c43 := HC43.out
        have c13 := HC13.out
        have f13 := HF13.out
        by_cases hs0 : wn = 0
        · subst hs0
          have HW0 : Hid (x.p.ws = []) := List.eq_nil_of_length_eq_zero HS2.out.symm
          have hfin := HFO.out w3 (by
            have : noteP x.p t = { x.p with dn := true } := by simp [noteP, HKT.out, H3.out, HW0.out]
            rw [this]; exact HQ1.out)
          go_wp2
          go_end0
          exact hfin
        · have hsp : (0 : Int) < (wn : Int) := by omega
          have HW0 : Hid (x.p.ws ≠ []) := fun e => by have := HS2.out; rw [e] at this; simp at this; exact hs0 this
          have hfin := HFO.out (w3.setCell ⟨g, o + 1, none⟩ (.int .u32 st)) (by
            have : noteP x.p t = { x.p with dn := true, co := st } := by simp [noteP, HKT.out, H3.out, HW0.out, HST.out]
            rw [this]; exact HQ2.out st)
          go_wp2
          go_end0
          exact hfin
      · have k3' : (kt == 3) = false := by simp [h3]
        have HN1 : Hid (noteP x.p t = x.p) := by show _ = _; simp [noteP, HKT.out, HPT.out, h1, h2, h3]
        have hfin := HFO.out w2 (Noted.here HR2.out HCC.out HO2.out HB2.out HN1.out)
        clear HBM rZ2
        go_wp2
        go_end0
        exact hfin
end Go.Proofs.Ytdlllnkcjfpajaa
