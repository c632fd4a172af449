/-
  Proved here: the small functions of a history: commits, end, cmp.Compare, put, and what orders transactions. Proved here: isHistory; how a list of transactions is read. Structs as values: their cells, lists of them in slices, copies of them.
-/
import Derived.Test.YtdlllnkcjfpajaaJq01
import Derived.Test.YtdlllnkcjfpajaaJq00
import Derived.Laws.AppendOwnNone
import Derived.Maps.AppendAt
import Derived.Deep.MidRow
import Derived.Deep.CutBlock
import Derived.Great.BuildSlice
import Derived.Laws.Cover3
namespace Go.Proofs.Ytdlllnkcjfpajaa
open Go.ChangeShapes Go.WideShapes Go.ChangeAt Go.RowKit
set_option linter.unusedVariables false
set_option linter.unusedSimpArgs false
set_option maxRecDepth 20000
def Pa.O.com (o : Pa.O) : Bool := o.done && decide (0 < o.writes.n)
def Pa.O.en (o : Pa.O) : Int := if o.com then o.commit else o.start
theorem commits_any (o : Pa.O) (w : World) : Calls Try.prog 39 #[.agg o.arr] w fun e w' => e = .returned (.bool o.com) ∧ Below w.heap.size w w' := by
  have r1 : Row (w.alloc (.cells o.arr 39)) w.heap.size o.arr 39 := Row.new _ _ _
  have b1 : Below w.heap.size w (w.alloc (.cells o.arr 39)) := (Below.refl _ _).alloc (Nat.le_refl _) _
  have HB : Hid _ := b1
  obtain ⟨st, co, dn, ⟨ra, rn, rc⟩, ⟨wa, wn, wc⟩⟩ := o
  have c2 := row_at r1 2 _ rfl
  have c4 := row_at r1 4 _ rfl
  clear r1 b1
  have HC : Hid (Pa.O.com ⟨st, co, dn, ⟨ra, rn, rc⟩, ⟨wa, wn, wc⟩⟩ = (dn && decide (0 < wn))) := rfl
  rw [HC.out]
  unfold Pa.O.arr at c2 c4 HB ⊢
  simp only at c2 c4 HB ⊢
  cases dn
  · go_enter Try.func39, Try.ntmps39
    go_wp2
    go_ret
    exact ⟨rfl, HB.out⟩
  · go_enter Try.func39, Try.ntmps39
    go_wp2
    go_ret
    exact ⟨rfl, HB.out⟩
theorem end_any (o : Pa.O) (w : World) : Calls Try.prog 48 #[.agg o.arr] w fun e w' => e = .returned (.int .u32 o.en) ∧ Below w.heap.size w w' := by
  have r1 : Row (w.alloc (.cells o.arr 39)) w.heap.size o.arr 39 := Row.new _ _ _
  have b1 : Below w.heap.size w (w.alloc (.cells o.arr 39)) := (Below.refl _ _).alloc (Nat.le_refl _) _
  have hcom := commits_any o (w.alloc (.cells o.arr 39))
  have HKEEP : Hid (∀ wb, Below (w.alloc (.cells o.arr 39)).heap.size (w.alloc (.cells o.arr 39)) wb → Below w.heap.size w wb ∧ wb.cell? ⟨w.heap.size, 0, none⟩ = some (.int .u32 o.start) ∧ wb.cell? ⟨w.heap.size, 1, none⟩ = some (.int .u32 o.commit)) := fun wb h =>
    have r2 : Row wb w.heap.size o.arr 39 := r1.below h (by simp)
    ⟨⟨h.os.trans b1.os, h.tape.trans b1.tape, h.output.trans b1.output, Nat.le_trans b1.size h.size, fun k hk => (h.block k (by have := b1.size; omega)).trans (b1.block k hk)⟩, row_at r2 0 _ rfl, row_at r2 1 _ rfl⟩
  clear b1
  cases hc : o.com
  · have HE : Hid (o.en = o.start) := by show _ = _; unfold Pa.O.en; rw [hc]; rfl
    rw [HE.out]
    rw [hc] at hcom
    go_enter Try.func48, Try.ntmps48
    go_wp2_with (first
      | (refine wpList_load_any rfl 39 (.tmp 1) rfl ⟨w.heap.size, 0, none⟩ rfl o.cells _ (fun j v hj => by rw [Addr.add_mid, Nat.zero_add, cell_of_row _ _ _ _ _ _ r1]; rw [← hj]; show o.cells.toArray[j]? = _; rw [List.getElem?_toArray]) Try.underlying39 rfl Pa.size39 ?_)
      | (go_at_call 39; refine hcom.mono ?_; clear hcom; rintro e wb ⟨he, hb⟩; obtain rfl := he; obtain ⟨k1, k2, k3⟩ := HKEEP.out _ hb))
    go_ret
    exact ⟨rfl, k1⟩
  · have HE : Hid (o.en = o.commit) := by show _ = _; unfold Pa.O.en; rw [hc]; rfl
    rw [HE.out]
    rw [hc] at hcom
    go_enter Try.func48, Try.ntmps48
    go_wp2_with (first
      | (refine wpList_load_any rfl 39 (.tmp 1) rfl ⟨w.heap.size, 0, none⟩ rfl o.cells _ (fun j v hj => by rw [Addr.add_mid, Nat.zero_add, cell_of_row _ _ _ _ _ _ r1]; rw [← hj]; show o.cells.toArray[j]? = _; rw [List.getElem?_toArray]) Try.underlying39 rfl Pa.size39 ?_)
      | (go_at_call 39; refine hcom.mono ?_; clear hcom; rintro e wb ⟨he, hb⟩; obtain rfl := he; obtain ⟨k1, k2, k3⟩ := HKEEP.out _ hb))
    go_ret
    exact ⟨rfl, k1⟩
theorem isNaN60 (x : Int) (w : World) : Calls Try.prog 60 #[.int .u32 x] w fun e w' => e = .returned (.bool false) ∧ w' = w := by
  go_enter Try.func60, Try.ntmps60
  go_wp2
  go_ret
  exact ⟨rfl, rfl⟩
def cmpI (x y : Int) : Int := if x < y then -1 else if x > y then 1 else 0
theorem cmpI_neg {x y : Int} : cmpI x y < 0 ↔ x < y := by unfold cmpI; split <;> (try split) <;> omega
theorem compare_any (x y : Int) (w : World) : Calls Try.prog 42 #[.int .u32 x, .int .u32 y] w fun e w' => e = .returned (.int .i64 (cmpI x y)) ∧ w' = w := by
  have h1 := isNaN60 x w
  have h2 := isNaN60 y w
  have HC : Hid (cmpI x y = if x < y then -1 else if x > y then 1 else 0) := rfl
  rw [HC.out]
  by_cases a : x < y
  · rw [if_pos a]
    go_enter Try.func42, Try.ntmps42
    go_wp2_with (first
      | (go_at_call 60; refine h1.mono ?_; clear h1; rintro e wb ⟨he, hww⟩; rw [hww]; clear hww wb; obtain rfl := he)
      | (go_at_call 60; refine h2.mono ?_; clear h2; rintro e wb ⟨he, hww⟩; rw [hww]; clear hww wb; obtain rfl := he))
    go_ret
    exact ⟨rfl, rfl⟩
  · rw [if_neg a]
    by_cases b : x > y
    · rw [if_pos b]
      go_enter Try.func42, Try.ntmps42
      go_wp2_with (first
        | (go_at_call 60; refine h1.mono ?_; clear h1; rintro e wb ⟨he, hww⟩; rw [hww]; clear hww wb; obtain rfl := he)
        | (go_at_call 60; refine h2.mono ?_; clear h2; rintro e wb ⟨he, hww⟩; rw [hww]; clear hww wb; obtain rfl := he))
      go_ret
      exact ⟨rfl, rfl⟩
    · rw [if_neg b]
      go_enter Try.func42, Try.ntmps42
      go_wp2_with (first
        | (go_at_call 60; refine h1.mono ?_; clear h1; rintro e wb ⟨he, hww⟩; rw [hww]; clear hww wb; obtain rfl := he)
        | (go_at_call 60; refine h2.mono ?_; clear h2; rintro e wb ⟨he, hww⟩; rw [hww]; clear hww wb; obtain rfl := he))
      go_ret
      exact ⟨rfl, rfl⟩
theorem order_any (a b : Pa.O) (w : World) : Calls Try.prog 41 #[.agg a.arr, .agg b.arr] w fun e w' => e = .returned (.int .i64 (cmpI a.start b.start)) ∧ Below w.heap.size w w' := by
  have r1 : Row (w.alloc (.cells a.arr 39)) w.heap.size a.arr 39 := Row.new _ _ _
  have r2 : Row ((w.alloc (.cells a.arr 39)).alloc (.cells b.arr 39)) (w.heap.size + 1) b.arr 39 := by
    have := Row.new (w.alloc (.cells a.arr 39)) b.arr 39
    rw [show (w.alloc (.cells a.arr 39)).heap.size = w.heap.size + 1 by simp] at this
    exact this
  have c1 := row_at (r1.alloc (.cells b.arr 39)) 0 _ rfl
  have c2 := row_at r2 0 _ rfl
  have b1 : Below w.heap.size w ((w.alloc (.cells a.arr 39)).alloc (.cells b.arr 39)) := ((Below.refl _ _).alloc (Nat.le_refl _) _).alloc (by simp) _
  have hc := compare_any a.start b.start ((w.alloc (.cells a.arr 39)).alloc (.cells b.arr 39))
  have HB : Hid _ := b1
  clear r1 b1
  go_enter Try.func41, Try.ntmps41
  go_wp2_with (first
    | (go_at_call 42; refine hc.mono ?_; clear hc; rintro e wb ⟨he, hww⟩; rw [hww]; clear hww wb; obtain rfl := he))
  go_ret
  exact ⟨rfl, HB.out⟩
theorem behind_any (a : Pa.O) (ts : Int) (w : World) : Calls Try.prog 75 #[.agg a.arr, .int .u32 ts] w fun e w' => e = .returned (.int .i64 (cmpI a.start ts)) ∧ Below w.heap.size w w' := by
  have r1 : Row (w.alloc (.cells a.arr 39)) w.heap.size a.arr 39 := Row.new _ _ _
  have c1 := row_at r1 0 _ rfl
  have b1 : Below w.heap.size w (w.alloc (.cells a.arr 39)) := (Below.refl _ _).alloc (Nat.le_refl _) _
  have hc := compare_any a.start ts (w.alloc (.cells a.arr 39))
  have HB : Hid _ := b1
  clear r1 b1
  go_enter Try.func75, Try.ntmps75
  go_wp2_with (first
    | (go_at_call 42; refine hc.mono ?_; clear hc; rintro e wb ⟨he, hww⟩; rw [hww]; clear hww wb; obtain rfl := he))
  go_ret
  exact ⟨rfl, HB.out⟩
def sput (f : Int × Int → Option Value) (a b : Int) : Int × Int → Option Value := if a = b then f else kput f (a, b) (.agg #[])
theorem put_any {w : World} {m n : Nat} {f : Int × Int → Option Value} (h : KMap E105 w m n f) (hn : n < maxLen) {a b : Int} (hab : stepok (a, b)) :
    Calls Try.prog 45 #[.map (some m), .int .i64 a, .int .i64 b] w fun e w' => e = .returned (.tuple #[]) ∧ KMap E105 w' m (n + 1) (sput f a b) ∧ Off (· = m) w w' := by
  by_cases e : a = b
  · have HF : Hid (sput f a b = f) := by show _ = _; unfold sput; rw [if_pos e]
    rw [HF.out]
    have hb : (a != b) = false := by simp [e]
    have HH : Hid _ := h
    clear e h
    go_enter Try.func45, Try.ntmps45
    go_wp2
    go_end0
    exact ⟨rfl, KMap.mono HH.out (Nat.le_succ _), Off.refl _ _⟩
  · have HF : Hid (sput f a b = kput f (a, b) (.agg #[])) := by show _ = _; unfold sput; rw [if_neg e]
    rw [HF.out]
    have hb : (a != b) = true := by simp [e]
    obtain ⟨w', hrun, hm, hg, hs⟩ := h.store Try.underlying94 hn hab (.agg #[])
    have HM : Hid _ := hm
    have HG : Hid _ := hg
    have hrun' : (Instr.mapUpdate 94 (.map (some m)) (.agg #[.int .i64 a, .int .i64 b]) (.agg #[])).run Try.prog w = .ok () w' := hrun
    clear hm hg hs hrun e h
    go_enter Try.func45, Try.ntmps45
    go_wp2
    go_end0
    exact ⟨rfl, HM.out, Off.of_grown HG.out (fun k hk => by cases hk; rfl)⟩
structure Hm where
  p : Pt
  r : Sl
  w : Sl
def Hm.o (h : Hm) : Pa.O := ⟨h.p.st, h.p.co, h.p.dn, h.r, h.w⟩
def sO (v : Int × Int) : Sn.O := ⟨v.1, v.2⟩
def gO (x : Int) : Pg.O := ⟨x⟩
structure Held1 (w : World) (h : Hm) : Prop where
  rs : Sn.Olds w (.slice h.r.a h.r.n h.r.c) (h.p.rs.map sO)
  ws : Pg.Olds w (.slice h.w.a h.w.n h.w.c) (h.p.ws.map gO)
theorem Held1.keep {w w' : World} {h : Hm} (hh : Held1 w h) (hb : Below w.heap.size w w') : Held1 w' h := ⟨hh.rs.keep hb, hh.ws.keep hb⟩
theorem Held1.wn {w : World} {h : Hm} (hh : Held1 w h) : h.w.n = h.p.ws.length := by
  rcases hh.ws with ⟨e, e2⟩ | ⟨a, cap, e, _⟩
  · injection e with _ e _; rw [e]; simp at e2; rw [e2]; rfl
  · injection e with _ e _; rw [e]; simp
theorem Held1.com {w : World} {h : Hm} (hh : Held1 w h) : h.o.com = h.p.com := by
  show (h.p.dn && decide (0 < h.w.n)) = (h.p.dn && decide (0 < h.p.ws.length))
  rw [hh.wn]
theorem Held1.en {w : World} {h : Hm} (hh : Held1 w h) : h.o.en = h.p.en := by
  unfold Pa.O.en Pt.en
  rw [hh.com]; rfl
structure Helds (w : World) (v : Value) (hs : List Hm) : Prop where
  row : Pa.Olds w v (hs.map Hm.o)
  each : ∀ h ∈ hs, Held1 w h
  fit : ∀ h ∈ hs, h.p.Fit
theorem Helds.keep {w w' : World} {v : Value} {hs : List Hm} (hh : Helds w v hs) (hb : Below w.heap.size w w') : Helds w' v hs := ⟨hh.row.keep hb, fun h m => (hh.each h m).keep hb, hh.fit⟩
theorem Helds.hold {w : World} {v : Value} {hs : List Hm} (hh : Helds w v hs) : ∃ oa cap, v = .slice oa hs.length cap ∧ ∀ i, i < hs.length → ∃ (a : Addr) (h : Hm), oa = some a ∧ hs[i]? = some h ∧ ∀ j u, h.o.cells[j]? = some u → w.cell? ((a.add (i * 5)).add j) = some u := by
  obtain ⟨oa, cap, h1, h2⟩ := hh.row.open
  rw [List.length_map] at h1 h2
  refine ⟨oa, cap, h1, fun i hi => ?_⟩
  obtain ⟨a, o, e1, e2, e3⟩ := h2 i hi
  rw [List.getElem?_map, List.getElem?_eq_getElem hi] at e2
  obtain rfl := (Option.some.inj e2)
  exact ⟨a, hs[i], e1, List.getElem?_eq_getElem hi, e3⟩
theorem below_trans {w a b : World} (h : Below w.heap.size w a) (k : Below a.heap.size a b) : Below w.heap.size w b :=
  ⟨k.os.trans h.os, k.tape.trans h.tape, k.output.trans h.output, Nat.le_trans h.size k.size, fun i hi => (k.block i (by have := h.size; omega)).trans (h.block i hi)⟩
theorem below_off {F : Nat → Prop} {w a b : World} (h : Below w.heap.size w a) (k : Off F a b) (hF : ∀ j, F j → w.heap.size ≤ j) : Below w.heap.size w b :=
  ⟨k.os.trans h.os, k.tape.trans h.tape, k.output.trans h.output, Nat.le_trans h.size k.size, fun i hi => (k.block i (by have := h.size; omega) (fun q => by have := hF i q; omega)).trans (h.block i hi)⟩
theorem cell_maps {F : Nat → Prop} {w w' : World} (hF : ∀ b, F b → ∃ es cl, w.heap[b]? = some (.map es cl)) (ho : Off F w w') {p : Addr} {u : Value} (h : w.cell? p = some u) : w'.cell? p = some u := by
  rw [← h]
  refine World.cell?_of_block (ho.block _ ?_ ?_)
  · unfold World.cell? at h
    by_cases q : p.block < w.heap.size
    · exact q
    · rw [Array.getElem?_eq_none (by omega)] at h; cases h
  · intro q
    obtain ⟨es, cl, hb⟩ := hF _ q
    unfold World.cell? at h
    rw [hb] at h; cases h
theorem Sn.Olds.maps {F : Nat → Prop} {w w' : World} (hF : ∀ b, F b → ∃ es cl, w.heap[b]? = some (.map es cl)) (ho : Off F w w') {v : Value} {os : List Sn.O} (h : Sn.Olds w v os) : Sn.Olds w' v os := by
  rcases h with h | ⟨a, cap, rfl, h⟩
  · exact Or.inl h
  · exact Or.inr ⟨a, cap, rfl, fun j u hj => cell_maps hF ho (h j u hj)⟩
theorem Pg.Olds.maps {F : Nat → Prop} {w w' : World} (hF : ∀ b, F b → ∃ es cl, w.heap[b]? = some (.map es cl)) (ho : Off F w w') {v : Value} {os : List Pg.O} (h : Pg.Olds w v os) : Pg.Olds w' v os := by
  rcases h with h | ⟨a, cap, rfl, h⟩
  · exact Or.inl h
  · exact Or.inr ⟨a, cap, rfl, fun j u hj => cell_maps hF ho (h j u hj)⟩
theorem Pa.Olds.maps {F : Nat → Prop} {w w' : World} (hF : ∀ b, F b → ∃ es cl, w.heap[b]? = some (.map es cl)) (ho : Off F w w') {v : Value} {os : List Pa.O} (h : Pa.Olds w v os) : Pa.Olds w' v os := by
  rcases h with h | ⟨a, cap, rfl, h⟩
  · exact Or.inl h
  · exact Or.inr ⟨a, cap, rfl, fun j u hj => cell_maps hF ho (h j u hj)⟩
theorem Held1.maps {F : Nat → Prop} {w w' : World} (hF : ∀ b, F b → ∃ es cl, w.heap[b]? = some (.map es cl)) (ho : Off F w w') {h : Hm} (hh : Held1 w h) : Held1 w' h := ⟨hh.rs.maps hF ho, hh.ws.maps hF ho⟩
theorem Helds.maps {F : Nat → Prop} {w w' : World} (hF : ∀ b, F b → ∃ es cl, w.heap[b]? = some (.map es cl)) (ho : Off F w w') {v : Value} {hs : List Hm} (hh : Helds w v hs) : Helds w' v hs := ⟨hh.row.maps hF ho, fun h m => (hh.each h m).maps hF ho, hh.fit⟩
theorem Held1.wat {w : World} {P : Pt} {r : Sl} {wa : Option Addr} {wn wc : Nat} (hh : Held1 w ⟨P, r, ⟨wa, wn, wc⟩⟩) (k : Nat) (hk : k < wn) : ∃ (a : Addr) (p : Int), wa = some a ∧ P.ws[k]? = some p ∧ w.cell? (a.add k) = some (.int .u16 p) := by
  have hn : wn = P.ws.length := hh.wn
  rcases hh.ws with ⟨e, e2⟩ | ⟨a, cap, e, hc⟩
  · exfalso
    simp at e2
    rw [hn, e2] at hk
    simp at hk
  · injection e with e1 e2 e3
    have hk2 : k < P.ws.length := by omega
    refine ⟨a, P.ws[k], e1, List.getElem?_eq_getElem hk2, ?_⟩
    have := hc k (.int .u16 P.ws[k]) (by
      rw [Pg.flat_get, Nat.div_one, List.getElem?_map, List.getElem?_eq_getElem hk2, Nat.mod_one]; rfl)
    exact this
theorem Held1.rat {w : World} {P : Pt} {r : Sl} {wa : Option Addr} {wn wc : Nat} (hh : Held1 w ⟨P, ⟨wa, wn, wc⟩, r⟩) (k : Nat) (hk : k < wn) : ∃ (a : Addr) (v : Int × Int), wa = some a ∧ P.rs[k]? = some v ∧ ∀ j u, ([.int .u16 v.1, .int .u32 v.2] : List Value)[j]? = some u → w.cell? ((a.add (k * 2)).add j) = some u := by
  have hn : wn = P.rs.length := by
    rcases hh.rs with ⟨e, e2⟩ | ⟨a, cap, e, _⟩
    · injection e with _ e _; simp at e2; rw [e2]; exact e
    · injection e with _ e _; simp at e; exact e
  rcases hh.rs with ⟨e, e2⟩ | ⟨a, cap, e, hc⟩
  · exfalso
    simp at e2
    rw [hn, e2] at hk
    simp at hk
  · injection e with e1 e2 e3
    have hk2 : k < P.rs.length := by omega
    refine ⟨a, P.rs[k], e1, List.getElem?_eq_getElem hk2, fun j u hj => ?_⟩
    have hj2 : j < 2 := (List.getElem?_eq_some_iff.1 hj).1
    rw [Sn.add_add]
    refine hc _ u ?_
    rw [Sn.flat_at _ k j (sO P.rs[k]) (by rw [List.getElem?_map, List.getElem?_eq_getElem hk2]; rfl) hj2]
    exact hj
theorem Held1.rn {w : World} {P : Pt} {r : Sl} {wa : Option Addr} {wn wc : Nat} (hh : Held1 w ⟨P, ⟨wa, wn, wc⟩, r⟩) : wn = P.rs.length := by
  rcases hh.rs with ⟨e, e2⟩ | ⟨a, cap, e, _⟩
  · injection e with _ e _; simp at e2; rw [e2]; exact e
  · injection e with _ e _; simp at e; exact e
theorem copied (w : World) (o : Pa.O) : Row ((w.alloc (.cells Pa.O.zero.arr 39)).setRow w.heap.size o.arr) w.heap.size o.arr 39 ∧ Below w.heap.size w ((w.alloc (.cells Pa.O.zero.arr 39)).setRow w.heap.size o.arr) := by
  have q1 : Row (w.alloc (.cells Pa.O.zero.arr 39)) w.heap.size Pa.O.zero.arr 39 := Row.new _ _ _
  have b1 : Below w.heap.size w (w.alloc (.cells Pa.O.zero.arr 39)) := (Below.refl _ _).alloc (Nat.le_refl _) _
  exact ⟨q1.set _, below_off b1 (Off.of_setRow (F := (· = w.heap.size)) _ _ _ rfl) (fun j e => by rw [e]; exact Nat.le_refl _)⟩
theorem Pa.O.row_cells {w : World} {g : Nat} {o : Pa.O} (h : Row w g o.arr 39) : ∀ j v, o.cells[j]? = some v → w.cell? ((⟨g, 0, none⟩ : Addr).add j) = some v := fun j v hj => by
  rw [Addr.add_mid, Nat.zero_add, cell_of_row _ _ _ _ _ _ h, ← hj]
  show o.cells.toArray[j]? = _
  rw [List.getElem?_toArray]
theorem Pa.zero39 (w : World) : (zeroValue 39).run Try.prog w = .ok (.agg Pa.O.zero.arr) w := by kernel_rfl
theorem Pa.O.arr_one (o : Pa.O) : o.arr.all (·.oneCell') = true := by simp [Pa.O.arr, Value.oneCell']
def setF (T : List Int) : Int → Option Value := fun t => if t ∈ T then some (.agg #[]) else none
theorem setF_put (T : List Int) (t : Int) : kput (setF T) t (.agg #[]) = setF (t :: T) := by
  funext y
  unfold kput setF
  by_cases e : y = t
  · simp [e]
  · simp [e]
set_option maxHeartbeats 2000000 in
theorem isHistory_any {w : World} {v : Value} {hs : List Hm} (hh : Helds w v hs) (hn : hs.length ≤ 1000) :
    Calls Try.prog 19 #[v] w fun e w' => e = .returned (.bool (isHF (hs.map Hm.p) [])) ∧ Below w.heap.size w w' := by
  have hmm := @run_makeMap Try.prog
  have hz39 := Pa.zero39
  obtain ⟨oa, cap, rfl, hcs⟩ := hh.hold
  have HCS : Hid _ := hcs
  have HH : Hid _ := hh
  clear hcs hh
  have m0 := KMap.made E35 w
  have b0 : Below w.heap.size w (w.alloc (.map #[] 0)) := (Below.refl _ _).alloc (Nat.le_refl _) _
  obtain ⟨R, HR⟩ : ∃ R, Hid (isHF (hs.map Hm.p) [] = R) := ⟨_, rfl⟩
  rw [HR.out]
  obtain ⟨n, HN⟩ : ∃ n, Hid (hs.length = n) := ⟨_, rfl⟩
  rw [HN.out] at hn HCS ⊢
  go_enter Try.func19, Try.ntmps19
  go_wp2
  obtain ⟨m, HM⟩ : ∃ m, Hid (w.heap.size = m) := ⟨_, rfl⟩
  rw [HM.out] at m0 ⊢
  have hmw : Hid (w.heap.size ≤ m) := by show _ ≤ _; rw [HM.out]; exact Nat.le_refl _
  go_loopw [11] (fun i wr => ∃ (j : Nat) (T : List Int) (nn : Nat), j ≤ n ∧ i = .int .i64 j ∧ KMap E35 wr m nn (setF T) ∧ nn ≤ j ∧ Below w.heap.size w wr ∧ isHF ((hs.map Hm.p).drop j) T = R) (fun i _ => n - (intOf i).toNat)
  case atStart => exact ⟨0, [], 0, by omega, rfl, m0, by omega, b0, HR.out⟩
  case round =>
    clear m0 b0
    obtain ⟨j, T, nn, hj, rfl, hm, hnn, hb, hR⟩ := hrel
    by_cases hjn : j < n
    · have hjn' : (j : Int) < (n : Int) := by omega
      obtain ⟨a, h, rfl, he, hcell⟩ := HCS.out j hjn
      have hcw : ∀ q x, h.o.cells[q]? = some x → wr.cell? ((a.add (j * 5)).add q) = some x := fun q x hq => cell_keep (hcell q x hq) hb
      have hmem : h ∈ hs := List.mem_of_getElem? he
      have h1 := (HH.out.each h hmem).keep hb
      have hfit := HH.out.fit h hmem
      have HD : Hid ((hs.map Hm.p).drop j = h.p :: (hs.map Hm.p).drop (j + 1)) := by
        show _ = _
        rw [List.drop_eq_getElem_cons (by rw [List.length_map, HN.out]; exact hjn)]
        congr 1
        rw [List.getElem_map]
        have := (List.getElem?_eq_some_iff.1 he).2
        rw [this]
      rw [HD.out] at hR
      clear he hcell HD hmem
      have tl : Hid (1 = 1) := rfl
      have q1 : Row (wr.alloc (.cells Pa.O.zero.arr 39)) wr.heap.size Pa.O.zero.arr 39 := Row.new _ _ _
      obtain ⟨k1, k2⟩ := copied wr h.o
      have HR' : Hid _ := hR
      have HT : Hid _ := hm
      have H1 : Hid _ := h1
      have HF : Hid _ := hfit
      clear hR hm h1 hfit
      go_upto_region 5 with (first
        | (have hh := tl; clear hh tl; refine wpList_load_any rfl 39 (.tmp 13) rfl (a.add (j * 5)) rfl h.o.cells _ hcw Try.underlying39 rfl Pa.size39 ?_)
        | (refine store_cells rfl 39 (.tmp 5) (.tmp 14) rfl wr.heap.size h.o.arr rfl rfl 39 _ q1 5 Pa.size39 rfl rfl h.o.arr_one ?_))
      clear q1 hcw
      generalize (wr.alloc (.cells Pa.O.zero.arr 39)).setRow wr.heap.size h.o.arr = w5 at k1 k2 ⊢
      have hcom := commits_any h.o w5
      rw [H1.out.com] at hcom
      have HK : Hid (∀ w6, Below w5.heap.size w5 w6 → Row w6 wr.heap.size h.o.arr 39 ∧ Below wr.heap.size wr w6 ∧ KMap E35 w6 m nn (setF T) ∧ Below w.heap.size w w6) := fun w6 hb6 =>
        have k3 : Below wr.heap.size wr w6 := below_trans k2 hb6
        ⟨k1.below hb6 k1.lt, k3, KMap.below HT.out k3, below_trans hb k3⟩
      obtain ⟨C, hC⟩ : ∃ C, Hid (h.p.com = C) := ⟨_, rfl⟩
      rw [hC.out] at hcom
      generalize hX : wr.heap.size = X at k1 HK ⊢
      clear hX
      cases C
      · have HR2 : Hid (isHF ((hs.map Hm.p).drop (j + 1)) T = R) := by have := HR'.out; unfold isHF at this; rw [hC.out] at this; exact this
        clear HR'
        go_wp2_with (first
          | (refine wpList_load_any rfl 39 (.tmp 5) rfl ⟨X, 0, none⟩ rfl h.o.cells _ (Pa.O.row_cells k1) Try.underlying39 rfl Pa.size39 ?_)
          | (go_at_call 39; refine hcom.mono ?_; clear hcom; rintro e w6 ⟨he, hb6⟩; obtain rfl := he; obtain ⟨z1, z2, z3, z4⟩ := HK.out _ hb6))
        go_roundw
        case rel => exact ⟨j + 1, T, nn, by omega, by go_num, z3, by omega, z4, HR2.out⟩
        case measure => simp [intOf]; omega
      · have hok : E35.ok h.p.co := by
          have := HF.out.co
          show (Lit.int .u32 h.p.co).wf = true
          exact WalkArith.wf_u32 this
        have HR2 : Hid ((if (decide (h.p.co ∈ T) || decide (h.p.co ≤ h.p.st)) = true then false else isHF ((hs.map Hm.p).drop (j + 1)) (h.p.co :: T)) = R) := by have := HR'.out; unfold isHF at this; rw [hC.out] at this; exact this
        clear HR'
        have hlk : ∀ w6, Below w5.heap.size w5 w6 → (Instr.lookup 89 (.map (some m)) (.int .u32 h.p.co) true).run Try.prog w6 = .ok (.tuple #[.agg #[], .bool (decide (h.p.co ∈ T))]) w6 := fun w6 hb6 => by
          have := KMap.look_ok Try.underlying89 (zero90 w6) (HK.out w6 hb6).2.2.1 hok
          have e : (setF T h.p.co).getD (.agg #[]) = .agg #[] ∧ (setF T h.p.co).isSome = decide (h.p.co ∈ T) := by
            unfold setF
            by_cases q : h.p.co ∈ T
            · simp [q]
            · simp [q]
          rw [e.1, e.2] at this
          exact this
        obtain ⟨B, hB⟩ : ∃ B, Hid (decide (h.p.co ∈ T) = B) := ⟨_, rfl⟩
        rw [hB.out] at hlk HR2
        have HLK : Hid _ := hlk
        clear hlk
        go_upto_region 6 with (first
          | (refine wpList_load_any rfl 39 (.tmp 5) rfl ⟨X, 0, none⟩ rfl h.o.cells _ (Pa.O.row_cells k1) Try.underlying39 rfl Pa.size39 ?_)
          | (go_at_call 39; refine hcom.mono ?_; clear hcom; rintro e w6 ⟨he, hb6⟩; obtain rfl := he; obtain ⟨z1, z2, z3, z4⟩ := HK.out _ hb6; have hlk := HLK.out _ hb6; have f1 : w6.cell? ⟨X, 1, none⟩ = some (.int .u32 h.p.co) := row_at z1 1 _ rfl; have f0 : w6.cell? ⟨X, 0, none⟩ = some (.int .u32 h.p.st) := row_at z1 0 _ rfl))
        go_upto_region 7 with fail
        have b7 : Below w6.heap.size w6 (w6.alloc (.cells #[] 90)) := (Below.refl _ _).alloc (Nat.le_refl _) _
        obtain ⟨y1, y2, y3, y4⟩ := HK.out _ (below_trans hb6 b7)
        clear f0 f1 z1 z2 z3 z4 hlk
        generalize w6.alloc (.cells #[] 90) = w7 at b7 y1 y2 y3 y4 ⊢
        have f1 : w7.cell? ⟨X, 1, none⟩ = some (.int .u32 h.p.co) := row_at y1 1 _ rfl
        have f0 : w7.cell? ⟨X, 0, none⟩ = some (.int .u32 h.p.st) := row_at y1 0 _ rfl
        clear hb6 b7 HLK
        cases B
        · by_cases q : h.p.co ≤ h.p.st
          · rw [decide_eq_true q] at HR2
            have HRR : Hid (R = false) := HR2.out.symm
            have HY : Hid _ := y4
            go_wp2
            go_ret
            exact ⟨by first | (rw [HRR.out]; done) | (rw [HRR.out]; rfl), HY.out⟩
          · rw [decide_eq_false q] at HR2
            obtain ⟨w8, hst, hm8, hg8, hs8⟩ := KMap.store Try.underlying89 y3 (by unfold maxLen; omega) hok (.agg #[])
            rw [setF_put] at hm8
            have hst' : (Instr.mapUpdate 89 (.map (some m)) (.int .u32 h.p.co) (.agg #[])).run Try.prog w7 = .ok () w8 := hst
            have hb8 : Below w.heap.size w w8 := below_off y4 (Off.of_grown (F := (· = m)) hg8 (fun k hk => by cases hk; rfl)) (fun k hk => by rw [hk]; exact hmw.out)
            clear hst hg8 hs8 y3
            go_wp2
            go_roundw
            case rel => exact ⟨j + 1, h.p.co :: T, nn + 1, by omega, by go_num, hm8, by omega, hb8, HR2.out⟩
            case measure => simp [intOf]; omega
        · have HRR : Hid (R = false) := HR2.out.symm
          have HY : Hid _ := y4
          go_wp2
          go_ret
          exact ⟨by first | (rw [HRR.out]; done) | (rw [HRR.out]; rfl), HY.out⟩
    · have hjn' : ¬ (j : Int) < (n : Int) := by omega
      have HRR : Hid (R = true) := by
        show _ = _
        rw [← hR, List.drop_eq_nil_of_le (by rw [List.length_map, HN.out]; omega)]; rfl
      have HY : Hid _ := hb
      clear hb hR
      go_wp2
      go_ret
      exact ⟨by first | (rw [HRR.out]; done) | (rw [HRR.out]; rfl), HY.out⟩
end Go.Proofs.Ytdlllnkcjfpajaa
namespace Go.Proofs.Ytdlllnkcjfpajaa.Us
open Go.ChangeShapes Go.WideShapes Go.ChangeAt Go.RowKit
set_option linter.unusedVariables false
set_option linter.unusedSimpArgs false
structure O where
  x : Int
def O.zero : O := ⟨0⟩
def O.cells (o : O) : List Value := [.int .u32 o.x]
def O.arr (o : O) : Array Value := #[.int .u32 o.x]
theorem O.cells_length (o : O) : o.cells.length = 1 := rfl
def flat (os : List O) : List Value := os.flatMap O.cells
theorem flat_length : ∀ os : List O, (flat os).length = os.length * 1
  | [] => rfl
  | o :: r => by
    have := flat_length r
    show (o.cells ++ flat r).length = _
    rw [List.length_append, this, O.cells_length]; simp; omega
theorem flat_at : ∀ (os : List O) (i j : Nat) (o : O), os[i]? = some o → j < 1 → (flat os)[i * 1 + j]? = o.cells[j]?
  | [], i, j, o, h, _ => by simp at h
  | p :: r, 0, j, o, h, hj => by
    simp at h; subst h
    show (p.cells ++ flat r)[0 * 1 + j]? = _
    rw [Nat.zero_mul, Nat.zero_add, List.getElem?_append_left (by rw [O.cells_length]; exact hj)]
  | p :: r, i + 1, j, o, h, hj => by
    simp at h
    show (p.cells ++ flat r)[(i + 1) * 1 + j]? = _
    rw [List.getElem?_append_right (by rw [O.cells_length]; omega), O.cells_length, show (i + 1) * 1 + j - 1 = i * 1 + j by omega]
    exact flat_at r i j o h hj
theorem flat_one : ∀ os : List O, ∀ u ∈ flat os, u.oneCell' = true := by
  intro os u hu
  obtain ⟨o, _, h⟩ := List.mem_flatMap.1 hu
  simp [O.cells] at h
  rcases h with rfl <;> rfl
theorem flat_append (a b : List O) : flat (a ++ b) = flat a ++ flat b := by simp [flat]
def Olds (w : World) (v : Value) (os : List O) : Prop :=
  (v = .slice none 0 0 ∧ os = []) ∨ ∃ a cap, v = .slice (some a) os.length cap ∧ ∀ j u, (flat os)[j]? = some u → w.cell? (a.add j) = some u
theorem cell_keep {w w' : World} {p : Addr} {u : Value} (h : w.cell? p = some u) (hb : Below w.heap.size w w') : w'.cell? p = some u := by
  rw [← h]
  refine World.cell?_of_block (hb.block _ ?_)
  unfold World.cell? at h
  by_cases q : p.block < w.heap.size
  · exact q
  · rw [Array.getElem?_eq_none (by omega)] at h; cases h
theorem Olds.keep {w w' : World} {v : Value} {os : List O} (h : Olds w v os) (hb : Below w.heap.size w w') : Olds w' v os := by
  rcases h with h | ⟨a, cap, rfl, h⟩
  · exact Or.inl h
  · exact Or.inr ⟨a, cap, rfl, fun j u hj => cell_keep (h j u hj) hb⟩
theorem add_add (a : Addr) (m j : Nat) : (a.add m).add j = a.add (m + j) := by
  unfold Addr.add
  by_cases h1 : m = 0
  · subst h1; simp
  · by_cases h2 : j = 0
    · subst h2; simp [h1]
    · rw [if_neg h2, if_neg h1, if_neg (by omega)]; simp; omega
theorem Olds.open {w : World} {v : Value} {os : List O} (h : Olds w v os) : ∃ oa cap, v = .slice oa os.length cap ∧ ∀ i, i < os.length → ∃ (a : Addr) (o : O), oa = some a ∧ os[i]? = some o ∧ ∀ j u, o.cells[j]? = some u → w.cell? ((a.add (i * 1)).add j) = some u := by
  rcases h with ⟨rfl, rfl⟩ | ⟨a, cap, rfl, h⟩
  · exact ⟨none, 0, rfl, fun i hi => absurd hi (by simp)⟩
  · refine ⟨some a, cap, rfl, fun i hi => ⟨a, os[i], rfl, by simp [hi], fun j u hj => ?_⟩⟩
    rw [add_add]
    have hj2 : j < 1 := by have := (List.getElem?_eq_some_iff.1 hj).1; simpa [O.cells] using this
    exact h _ u (by rw [flat_at os i j os[i] (by simp [hi]) hj2]; exact hj)
def Own (w : World) (base : Nat) (v : Value) (os : List O) : Prop := w.ownsRow base 35 1 v os.length (flat os)
theorem Own.olds {w : World} {base : Nat} {v : Value} {os : List O} (h : Own w base v os) : Olds w v os := by
  have hc := fun g hg => World.ownsRow.cells h (g := g) hg
  obtain ⟨h1, h2⟩ := h
  rcases h2 with ⟨rfl, h2⟩ | ⟨g, cap, cur, rfl, hb, hg, _⟩
  · exact Or.inl ⟨rfl, List.eq_nil_of_length_eq_zero h2⟩
  · exact Or.inr ⟨⟨g, 0, none⟩, cap, rfl, hc g rfl⟩
theorem Own.keep {w w' : World} {base : Nat} {v : Value} {os : List O} (h : Own w base v os) (hb : Below w.heap.size w w') : Own w' base v os := by
  have hl := World.ownsRow.lt h
  obtain ⟨h1, h2⟩ := h
  refine ⟨h1, ?_⟩
  rcases h2 with h2 | ⟨g, cap, cur, rfl, hb', hc, rest⟩
  · exact Or.inl h2
  · have := hl g (by simp [Value.ownBlock])
    exact Or.inr ⟨g, cap, cur, rfl, hb', (hb.block g this.2).trans hc, rest⟩
theorem info_parts {P : Program} {t : TypeId} {z : Option Value} {n b : Nat} (h : (P.info? t).map (fun i => (i.zero, i.size, i.bytes)) = some (z, n, b)) : ∃ i, P.info? t = some i ∧ i.zero = z ∧ i.size = n ∧ i.bytes = b := by
  obtain ⟨i, hi, e⟩ := Option.map_eq_some_iff.1 h
  simp only [Prod.mk.injEq] at e
  exact ⟨i, hi, e.1, e.2.1, e.2.2⟩
theorem info35 : (Try.prog.info? 35).map (fun i => (i.zero, i.size, i.bytes)) = some (some (.int .u32 0), 1, 4) := by kernel_rfl
theorem flat_get (os : List O) (j : Nat) : (flat os)[j]? = (os[j / 1]?).bind (fun o => o.cells[j % 1]?) := by
  have e : j = j / 1 * 1 + j % 1 := by omega
  cases h : os[j / 1]? with
  | some o =>
    have := flat_at os (j / 1) (j % 1) o h (by omega)
    rw [← e] at this; rw [this]; rfl
  | none =>
    have hl : os.length ≤ j / 1 := by simpa using h
    rw [List.getElem?_eq_none (by rw [flat_length]; omega)]; rfl
theorem Own.blk {w : World} {base : Nat} {v : Value} {os : List O} (h : Own w base v os) (hn : 0 < os.length) : ∃ g cap, v = .slice (some ⟨g, 0, none⟩) os.length cap ∧ base ≤ g := by
  rcases h.2 with ⟨rfl, h2⟩ | ⟨g, cap, cur, rfl, hb, _⟩
  · omega
  · exact ⟨g, cap, rfl, hb⟩
theorem Own.there {w : World} {base g n cap : Nat} {os : List O} (h : Own w base (.slice (some ⟨g, 0, none⟩) n cap) os) (s : Nat) (hs : s < os.length) : w.there g (s * 1) 1 := fun j hj => by
  rcases h.2 with ⟨q, _⟩ | ⟨g', cap', cur, q, hb, hc, hle, _, hsz, _⟩
  · cases q
  · cases q
    have r : Row w g cur 35 := hc
    refine ⟨?_, row_frozen r _⟩
    have hm : os.length * 1 ≤ cap * 1 := Nat.mul_le_mul_right _ hle
    rw [cell_of_row w g _ _ _ _ r, Array.getElem?_eq_getElem (by rw [hsz]; omega)]; rfl
theorem wp_copy {T : Value → World → Prop} {w : World} {o : Oper} {a : Act} {K : Act → World → Prop} {Q : Exit → Act → World → Prop} (s x : Operand) (t : TypeId)
    (ho : o.op = .call { callee := .builtin .append, args := #[s, x], argTypes := #[t, t] }) (sv v : Value) (hs : a.eval s = sv) (hx : a.eval x = v)
    (hr : ∀ ty, ∃ v' w', (Builtin.append_ #[t, t] ty #[sv, v]).run Try.prog w = .ok v' w' ∧ T v' w')
    (h : ∀ v' w', T v' w' → K (a.put o.dst v') w') : Oper.wp Try.prog o a w K Q := by
  obtain ⟨v', w', hrun, hT⟩ := hr o.type
  unfold Oper.wp
  simp [execOp, ho, resolve, invoke, builtin, hs, hx, hrun, Result.andThen]
  exact h v' w' hT
theorem wpList_copy {T : Value → World → Prop} {w : World} {ops : Array Oper} {rest : List Oper} {o : Oper} {a : Act} {Q : Exit → Act → World → Prop} (hgd : o.guard = none) (s x : Operand) (t : TypeId)
    (ho : o.op = .call { callee := .builtin .append, args := #[s, x], argTypes := #[t, t] }) (sv v : Value) (hs : a.eval s = sv) (hx : a.eval x = v)
    (hr : ∀ ty, ∃ v' w', (Builtin.append_ #[t, t] ty #[sv, v]).run Try.prog w = .ok v' w' ∧ T v' w')
    (h : ∀ v' w', T v' w' → wpList Try.prog ops Q rest (a.put o.dst v') w') : wpList Try.prog ops Q (o :: rest) a w := by
  refine wpList_plain hgd fun K hK => ?_
  obtain ⟨v', w', hrun, hT⟩ := hr o.type
  unfold Oper.wp
  simp [execOp, ho, resolve, invoke, builtin, hs, hx, hrun, Result.andThen]
  exact hK _ _ (h v' w' hT)
theorem Own.alloc {w : World} {base : Nat} {v : Value} {os : List O} (h : Own w base v os) (o : Obj) : Own (w.alloc o) base v os := h.keep ((Below.refl _ _).alloc (Nat.le_refl _) _)
theorem Own.form {w : World} {base : Nat} {v : Value} {os : List O} (h : Own w base v os) : ∃ oa cap, v = .slice oa os.length cap := by
  rcases h.2 with ⟨rfl, h2⟩ | ⟨g, cap, cur, rfl, _⟩
  · exact ⟨none, 0, by rw [h2]⟩
  · exact ⟨_, cap, rfl⟩
theorem Own.base {w : World} {base base' : Nat} {v : Value} {os : List O} (h : Own w base v os) (hb : base' ≤ base) : Own w base' v os := by
  obtain ⟨h1, h2⟩ := h
  refine ⟨h1, ?_⟩
  rcases h2 with h2 | ⟨g, cap, cur, rfl, hb', rest⟩
  · exact Or.inl h2
  · exact Or.inr ⟨g, cap, cur, rfl, by omega, rest⟩
theorem Own.snocP {w : World} {base : Nat} {v : Value} {os : List O} (h : Own w base v os) (ty : TypeId) (X : Nat) (p : O) (hX : Row w X p.arr 35) (hb : base ≤ w.heap.size) (hn : os.length ≤ 1000) :
    ∃ v' w', (Builtin.append_ #[124, 124] ty #[v, .slice (some ⟨X, 0, none⟩) 1 1]).run Try.prog w = .ok v' w' ∧ Own w' base v' (os ++ [p]) ∧ w.grownBy w' v.ownBlock := by
  obtain ⟨i, hi, hz, hs, hby⟩ := info_parts info35
  obtain ⟨v', w', hr, h2, h3, h4, h5⟩ := run_append_own_at (P := Try.prog) w base 124 ty 35 i _ 1 4 Try.underlying124 hi hz hs hby rfl (by decide) v os.length (flat os) h ⟨X, 0, none⟩ 1 1 p.cells rfl (fun j u hj => by rw [Addr.add_mid, Nat.zero_add, cell_of_row w X j _ _ _ hX, ← hj]; show p.cells.toArray[j]? = _; rw [List.getElem?_toArray]) (fun u hu => flat_one [p] u (by simpa [flat] using hu)) (by unfold maxLen; omega) (by omega) hb
  refine ⟨v', w', hr, ?_, h3⟩
  unfold Own
  rw [flat_append, List.length_append]
  exact h2
theorem Olds.hold {w : World} {v : Value} {os : List O} (h : Olds w v os) : ∃ oa cap, v = .slice oa os.length cap ∧ ∀ i, i < os.length → ∃ (a : Addr) (x0 : Int), oa = some a ∧ os[i]? = some ⟨x0⟩ ∧ ∀ j u, ([.int .u32 x0] : List Value)[j]? = some u → w.cell? ((a.add (i * 1)).add j) = some u := by
  obtain ⟨oa, cap, h1, h2⟩ := h.open
  refine ⟨oa, cap, h1, fun i hi => ?_⟩
  obtain ⟨a, ⟨x0⟩, e1, e2, e3⟩ := h2 i hi
  exact ⟨a, x0, e1, e2, e3⟩
end Go.Proofs.Ytdlllnkcjfpajaa.Us
