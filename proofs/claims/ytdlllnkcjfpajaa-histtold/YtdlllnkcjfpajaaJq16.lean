/-
  Plain facts: what a history shows does not turn with the order of its transactions. Proved here: awake: a lost update is seen. Proved here: few, the law's copy of a history. Plain facts: a history that came in as an argument. What the statements on transactions that were not committed want: a list that grows beside copies. What the statement on turned histories wants: a history stays one in any order; a list begun elsewhere is the same list in another order. Plain facts: each thing that may not be is seen where it is made. What is wanted to make the three: a copy of the copy, a list of one read, two more at the end of a list.
-/
import Derived.Test.YtdlllnkcjfpajaaJq15
import Derived.Deep.Slices
namespace Go.Proofs.Ytdlllnkcjfpajaa
open Go.ChangeShapes Go.WideShapes Go.ChangeAt Go.RowKit
set_option linter.unusedVariables false
set_option linter.unusedSimpArgs false
set_option maxRecDepth 20000
open Relation
theorem perm_map {α : Type} {l l' : List α} (h : l.Perm l') : ∃ s t : Nat → Nat, (∀ i x, l[i]? = some x → l'[s i]? = some x) ∧ (∀ i x, l'[i]? = some x → l[t i]? = some x) ∧ (∀ i, i < l'.length → s (t i) = i) ∧ ∀ i, i < l.length → t (s i) = i := by
  induction h with
  | nil => exact ⟨id, id, fun i x h => h, fun i x h => h, fun _ _ => rfl, fun _ _ => rfl⟩
  | cons a _ ih =>
    obtain ⟨s, t, h1, h2, h3, h4⟩ := ih
    refine ⟨fun i => if i = 0 then 0 else s (i - 1) + 1, fun i => if i = 0 then 0 else t (i - 1) + 1, fun i x h => ?_, fun i x h => ?_, fun i h => ?_, fun i h => ?_⟩
    · cases i with
      | zero => simpa using h
      | succ i => simpa using h1 i x (by simpa using h)
    · cases i with
      | zero => simpa using h
      | succ i => simpa using h2 i x (by simpa using h)
    · cases i with
      | zero => simp
      | succ i => simpa using h3 i (by simpa using h)
    · cases i with
      | zero => simp
      | succ i => simpa using h4 i (by simpa using h)
  | swap a b l =>
    have key : ∀ (a b : α) (i : Nat) x, (b :: a :: l)[i]? = some x → (a :: b :: l)[if i = 0 then 1 else if i = 1 then 0 else i]? = some x := fun a b i x h => by
      match i with
      | 0 => simpa using h
      | 1 => simpa using h
      | i + 2 => simpa using h
    refine ⟨fun i => if i = 0 then 1 else if i = 1 then 0 else i, fun i => if i = 0 then 1 else if i = 1 then 0 else i, key a b, key b a, fun i _ => ?_, fun i _ => ?_⟩
    all_goals (by_cases e0 : i = 0 <;> by_cases e1 : i = 1 <;> simp [e0, e1] <;> omega)
  | trans _ _ ih1 ih2 =>
    obtain ⟨s, t, h1, h2, h3, h4⟩ := ih1
    obtain ⟨s', t', g1, g2, g3, g4⟩ := ih2
    refine ⟨s' ∘ s, t ∘ t', fun i x h => g1 _ _ (h1 _ _ h), fun i x h => h2 _ _ (g2 _ _ h), fun i h => ?_, fun i h => ?_⟩
    · have hx := g2 i _ (List.getElem?_eq_getElem h)
      have := (List.getElem?_eq_some_iff.1 hx).1
      show s' (s (t (t' i))) = i
      rw [h3 _ this, g3 i h]
    · have hx := h1 i _ (List.getElem?_eq_getElem h)
      have := (List.getElem?_eq_some_iff.1 hx).1
      show t (t' (s' (s i))) = i
      rw [g4 _ this, h4 i h]
structure Iso (hs ks : List Hm) (s t : Nat → Nat) : Prop where
  frw : ∀ i h, hs[i]? = some h → ∃ k, ks[s i]? = some k ∧ k.p = h.p
  fro : ∀ i k, ks[i]? = some k → ∃ h, hs[t i]? = some h ∧ h.p = k.p
  st : ∀ i, i < ks.length → s (t i) = i
  ts : ∀ i, i < hs.length → t (s i) = i
theorem Iso.symm {hs ks : List Hm} {s t : Nat → Nat} (h : Iso hs ks s t) : Iso ks hs t s := ⟨h.fro, h.frw, h.ts, h.st⟩
theorem Iso.of_perm {hs ks : List Hm} (h : (hs.map Hm.p).Perm (ks.map Hm.p)) : ∃ s t, Iso hs ks s t := by
  obtain ⟨s, t, h1, h2, h3, h4⟩ := perm_map h
  have key : ∀ (l l' : List Hm) (s : Nat → Nat), (∀ i x, (l.map Hm.p)[i]? = some x → (l'.map Hm.p)[s i]? = some x) → ∀ i h, l[i]? = some h → ∃ k, l'[s i]? = some k ∧ k.p = h.p := fun l l' s hh i h hi => by
    have := hh i h.p (by rw [List.getElem?_map, hi]; rfl)
    rw [List.getElem?_map] at this
    obtain ⟨k, hk, e⟩ := Option.map_eq_some_iff.1 this
    exact ⟨k, hk, e⟩
  exact ⟨s, t, key _ _ _ h1, key _ _ _ h2, fun i hi => h3 i (by simpa using hi), fun i hi => h4 i (by simpa using hi)⟩
section
variable {hs ks : List Hm} {s t : Nat → Nat} (I : Iso hs ks s t)
include I
theorem Iso.inj {i j : Nat} (hi : i < hs.length) (hj : j < hs.length) (e : s i = s j) : i = j := by rw [← I.ts i hi, ← I.ts j hj, e]
theorem Iso.wr {j : Nat} {v : Int × Int} (h : WrI hs j v) : WrI ks (s j) v := by
  obtain ⟨x, h1, h2, h3⟩ := h
  obtain ⟨y, h4, h5⟩ := I.frw j x h1
  exact ⟨y, h4, by rw [h5]; exact h2, by rw [h5]; exact h3⟩
theorem Iso.nx {k : Nat} {v : Int × Int} (h : NxI hs v k) : NxI ks v (s k) := by
  obtain ⟨q, h1, h2, h3⟩ := h
  exact ⟨q, I.wr h1, h2, fun k' t' h4 h5 => h3 _ t' (I.symm.wr h4) h5⟩
theorem Iso.dep {i j : Nat} (h : DepI hs ((i : Int), (j : Int))) : DepI ks ((s i : Int), (s j : Int)) := by
  rcases h with ⟨v, a, b, h1, h2, h3, e⟩ | ⟨a, x, v, h1, h2, ⟨b, h3, h4, e⟩⟩
  · have e1 := congrArg Prod.fst e; have e2 := congrArg Prod.snd e; simp at e1 e2
    obtain rfl : i = a := by omega
    obtain rfl : j = b := by omega
    exact Or.inl ⟨v, s i, s j, I.wr h1, I.nx h2, fun q => h3 (I.inj h1.lt h2.lt q), rfl⟩
  · have e1 := congrArg Prod.fst e; have e2 := congrArg Prod.snd e; simp at e1 e2
    obtain rfl : i = b := by omega
    obtain rfl : j = a := by omega
    obtain ⟨y, h5, h6⟩ := I.frw j x h1
    exact Or.inr ⟨s j, y, v, h5, by rw [h6]; exact h2, ⟨s i, I.wr h3, fun q => h4 (I.inj h3.lt (List.getElem?_eq_some_iff.1 h1).1 q), rfl⟩⟩
theorem Iso.pas {i j : Nat} (h : PasI hs ((i : Int), (j : Int))) : PasI ks ((s i : Int), (s j : Int)) := by
  obtain ⟨a, x, v, h1, h2, h3, b, h4, h5, e⟩ := h
  have e1 := congrArg Prod.fst e; have e2 := congrArg Prod.snd e; simp at e1 e2
  obtain rfl : i = b := by omega
  obtain rfl : j = a := by omega
  obtain ⟨y, h6, h7⟩ := I.frw j x h1
  refine ⟨s j, y, v, h6, by rw [h7]; exact h2, ?_, s i, I.nx h4, fun q => h5 (I.inj h4.lt (List.getElem?_eq_some_iff.1 h1).1 q), rfl⟩
  rcases h3 with ⟨c, hc⟩ | h3
  · exact Or.inl ⟨s c, I.wr hc⟩
  · exact Or.inr h3
theorem Iso.ab (h : AbI hs) : AbI ks := by
  obtain ⟨i, x, v, h1, h2, h3, h4⟩ := h
  obtain ⟨y, h5, h6⟩ := I.frw i x h1
  exact ⟨s i, y, v, h5, by rw [h6]; exact h2, h3, fun j q => h4 _ (I.symm.wr q)⟩
theorem Iso.edge {i j : Nat} (h : Edge hs i j) : Edge ks (s i) (s j) := by
  rcases h with h | ⟨x, y, h1, h2, h3⟩
  · exact Or.inl (I.dep h)
  · obtain ⟨x', h4, h5⟩ := I.frw i x h1
    obtain ⟨y', h6, h7⟩ := I.frw j y h2
    exact Or.inr ⟨x', y', h4, h6, by rw [h5, h7]; exact h3⟩
theorem Iso.come {i j : Nat} (h : Come (Edge hs) i j) : Come (Edge ks) (s i) (s j) := by
  induction h with
  | here => exact .here
  | step _ r ih => exact .step ih (I.edge r)
theorem Iso.cir (h : CirI hs) : CirI ks := by
  obtain ⟨x, hx⟩ := h
  have : ∀ a b, TransGen (fun a b : Nat => DepI hs ((a : Int), (b : Int))) a b → TransGen (fun a b : Nat => DepI ks ((a : Int), (b : Int))) (s a) (s b) := fun a b q => by
    induction q with
    | single r => exact .single (I.dep r)
    | tail _ r ih => exact .tail ih (I.dep r)
  exact ⟨s x, this x x hx⟩
theorem Iso.int (h : InI hs) : InI ks := by
  obtain ⟨_, h1, i, j, x, y, rfl, h2, h3, h4⟩ := h
  obtain ⟨x', h5, h6⟩ := I.frw i x h2
  obtain ⟨y', h7, h8⟩ := I.frw j y h3
  exact ⟨_, I.dep h1, s i, s j, x', y', rfl, h5, h7, by rw [h6, h8]; exact h4⟩
theorem Iso.mis (h : MisI hs) : MisI ks := by
  obtain ⟨i, j, h1, h2⟩ := h
  exact ⟨s i, s j, I.pas h1, I.come h2⟩
end
theorem ShownH.det {ps qs : List Hm} {x y : Int} (h : ShownH ps x) (k : ShownH qs y) (hp : ((ps.filter fun h => h.p.dn).map Hm.p).Perm ((qs.filter fun h => h.p.dn).map Hm.p)) : x = y := by
  obtain ⟨hs, a, c, i, m, h1, _, rfl, h2, h3, h4, h5⟩ := h
  obtain ⟨ks, a', c', i', m', k1, _, rfl, k2, k3, k4, k5⟩ := k
  obtain ⟨s, t, I⟩ := Iso.of_perm (((h1.map Hm.p).trans hp).trans (k1.map Hm.p).symm)
  have ea : a = a' := Bool.eq_iff_iff.2 (h2.trans ((Iff.intro I.ab I.symm.ab).trans k2.symm))
  have ec : c = c' := Bool.eq_iff_iff.2 (h3.trans ((Iff.intro I.cir I.symm.cir).trans k3.symm))
  have ei : i = i' := Bool.eq_iff_iff.2 (h4.trans ((Iff.intro I.int I.symm.int).trans k4.symm))
  have em : m = m' := Bool.eq_iff_iff.2 (h5.trans ((Iff.intro I.mis I.symm.mis).trans k5.symm))
  rw [ea, ec, ei, em]
theorem built39 (c : Int) (b : Nat) : Try.prog.built 39 [(1, .int .u32 c), (2, .bool true), (4, .slice (some ⟨b, 0, none⟩) 1 1)] = some #[.int .u32 0, .int .u32 c, .bool true, .slice none 0 0, .slice (some ⟨b, 0, none⟩) 1 1] := by kernel_rfl
def lostH (b : Nat) (c : Int) : Hm := ⟨⟨0, c, true, [], [3]⟩, ⟨none, 0, 0⟩, ⟨some ⟨b, 0, none⟩, 1, 1⟩⟩
theorem lost_wr {a b : Nat} {j : Nat} {v : Int × Int} (h : WrI [lostH a 1, lostH b 2] j v) : v.1 = 3 ∧ v.2 = (j : Int) + 1 ∧ j < 2 := by
  obtain ⟨x, h1, h2, h3⟩ := h
  match j with
  | 0 => simp at h1; subst h1; simp [lostH] at h2 h3; exact ⟨h2, h3, by omega⟩
  | 1 => simp at h1; subst h1; simp [lostH] at h2 h3; exact ⟨h2, h3, by omega⟩
  | j + 2 => simp at h1
theorem lost_rs {a b : Nat} {i : Nat} {x : Hm} {v : Int × Int} (h : [lostH a 1, lostH b 2][i]? = some x) (hv : v ∈ x.p.rs) : False := by
  match i with
  | 0 => simp at h; subst h; simp [lostH] at hv
  | 1 => simp at h; subst h; simp [lostH] at hv
  | j + 2 => simp at h
theorem lost_dep {a b i j : Nat} (h : DepI [lostH a 1, lostH b 2] ((i : Int), (j : Int))) : i < j := by
  rcases h with ⟨v, i', j', h1, ⟨t, h2, h3, _⟩, _, e⟩ | ⟨i', x, v, h1, h2, _⟩
  · have e1 := congrArg Prod.fst e; have e2 := congrArg Prod.snd e; simp at e1 e2
    have := (lost_wr h1).2.1
    have := (lost_wr h2).2.1
    simp at this
    omega
  · exact (lost_rs h1 h2).elim
theorem lost_shown (a b : Nat) : ShownH [lostH a 1, lostH b 2] 4 := by
  refine ⟨[lostH a 1, lostH b 2], false, false, true, false, ?_, ?_, rfl, ⟨(fun q => by cases q), fun q => ?_⟩, ⟨(fun q => by cases q), fun q => ?_⟩, ⟨fun _ => ?_, fun _ => rfl⟩, ⟨(fun q => by cases q), fun q => ?_⟩⟩
  · simp [lostH]
  · intro i j v h1 h2
    have := (lost_wr h1).2.1
    have := (lost_wr h2).2.1
    omega
  · obtain ⟨i, x, v, h1, h2, _⟩ := q
    exact (lost_rs h1 h2).elim
  · obtain ⟨x, hx⟩ := q
    exact (no_circle (fun x : Nat => x) (fun a b h => lost_dep h) x hx).elim
  · have w0 : WrI [lostH a 1, lostH b 2] 0 (3, 1) := ⟨_, rfl, by simp [lostH], rfl⟩
    have w1 : WrI [lostH a 1, lostH b 2] 1 (3, 2) := ⟨_, rfl, by simp [lostH], rfl⟩
    refine ⟨_, Or.inl ⟨(3, 1), 0, 1, w0, ⟨2, w1, by decide, fun k t' hk ht => ?_⟩, by decide, rfl⟩, 0, 1, _, _, rfl, rfl, rfl, ?_⟩
    · simp at ht; omega
    · simp [lostH, Pt.en, Pt.com]
  · obtain ⟨i, j, ⟨_, x, v, h1, h2, _⟩, _⟩ := q
    exact (lost_rs h1 h2).elim
theorem wpList_two {ops : Array Oper} {rest : List Oper} {o : Oper} {a : Act} {w : World} {Q : Exit → Act → World → Prop} (hg : o.guard = none) (x y : Operand) (ho : o.op = .buildSlice 22 2 #[(0, x), (1, y)]) (p q : Pa.O) (hx : a.eval x = .agg p.arr) (hy : a.eval y = .agg q.arr)
    (h : wpList Try.prog ops Q rest (a.put o.dst (.slice (some ⟨w.heap.size, 0, none⟩) 2 2)) (w.alloc (.cells (Pa.flat [p, q]).toArray 39))) : wpList Try.prog ops Q (o :: rest) a w := by
  obtain ⟨i, hi, hz, hs, _⟩ := Pa.info_parts Pa.info39
  refine wpList_buildSlice hg 22 39 2 _ ho (Pa.flat [p, q]).toArray i _ Try.underlying22 hi hz (by rw [hs]; decide) (by rw [hs]; decide) ?_ h
  have e1 : (#[(0, x), (1, y)].map fun (i, x) => (i, a.eval x)).toList = [(0, .agg p.arr), (1, .agg q.arr)] := by simp [hx, hy]
  rw [e1, fill_step _ _ 0 (.agg p.arr) _ 0 5 (by simp [hs]) (by rfl) (by simp [hs]), fill_step _ _ 1 (.agg q.arr) _ 5 5 (by simp [hs]) (by rfl) (by simp [splice, hs, Value.cells, Pa.O.arr])]
  unfold Instr.fill
  congr 1
  show (⟨splice (splice _ 0 p.cells) 5 q.cells⟩ : Array Value) = ⟨Pa.flat [p, q]⟩
  congr 1
  unfold splice Pa.flat
  simp [Pa.O.cells, hs]
set_option maxHeartbeats 2000000 in
theorem awake_any (w : World) : Calls Try.prog 14 #[] w fun e w' => e = .returned (.bool true) ∧ Below w.heap.size w w' := by
  have hb1 := built39 1
  have hb2 := built39 2
  have HC : Hid (∀ w3 : World, Row w3 w.heap.size #[.int .u16 3] 44 → Row w3 (w.heap.size + 1) #[.int .u16 3] 44 → Row w3 (w.heap.size + 2) (Pa.flat [(lostH w.heap.size 1).o, (lostH (w.heap.size + 1) 2).o]).toArray 39 → Calls Try.prog 11 #[.slice (some ⟨w.heap.size + 2, 0, none⟩) 2 2] w3 fun e w' => e = .returned (.tuple #[.int .u8 4, .int .i64 0]) ∧ Below w3.heap.size w3 w') := fun w3 r1 r2 r3 => by
    have h1 : ∀ (b : Nat) (c : Int), Row w3 b #[.int .u16 3] 44 → Held1 w3 (lostH b c) := fun b c r => ⟨Or.inl ⟨rfl, rfl⟩, Or.inr ⟨⟨b, 0, none⟩, 1, rfl, fun j u hj => by
      match j with
      | 0 =>
        simp [lostH, Pg.flat, gO, Pg.O.cells] at hj
        subst hj
        rw [addr_zero]
        exact row_at r 0 _ rfl
      | j + 1 => simp [lostH, Pg.flat, gO, Pg.O.cells] at hj⟩⟩
    have hh : Helds w3 (.slice (some ⟨w.heap.size + 2, 0, none⟩) 2 2) [lostH w.heap.size 1, lostH (w.heap.size + 1) 2] := ⟨Or.inr ⟨⟨w.heap.size + 2, 0, none⟩, 2, rfl, fun j u hj => by
      rw [Addr.add_mid, Nat.zero_add, cell_of_row _ _ _ _ _ _ r3, ← hj, List.getElem?_toArray]; rfl⟩, fun h hm => by
        simp at hm
        rcases hm with rfl | rfl
        · exact h1 _ _ r1
        · exact h1 _ _ r2, fun h hm => by
        simp at hm
        rcases hm with rfl | rfl <;> exact ⟨by simp [lostH], by simp [lostH], by simp [lostH], by simp [lostH], by simp [lostH], by simp [lostH]⟩⟩
    refine (check_any hh (by simp) (by simp [lostH])).mono fun e w' ⟨hb, hr⟩ => ?_
    rcases hr with ⟨q, _⟩ | ⟨_, x, rfl, hx⟩
    · simp [lostH, isHF, Pt.com] at q
    · refine ⟨?_, hb⟩
      rw [ShownH.det hx (lost_shown w.heap.size (w.heap.size + 1)) (List.Perm.refl _)]
  have R1 : Row (w.alloc (.cells #[.int .u16 3] 44)) w.heap.size #[.int .u16 3] 44 := Row.new _ _ _
  have S1 : (w.alloc (.cells #[.int .u16 3] 44)).heap.size = w.heap.size + 1 := by simp
  have B1 : Below w.heap.size w (w.alloc (.cells #[.int .u16 3] 44)) := (Below.refl _ _).alloc (Nat.le_refl _) _
  have b2 : Below (w.alloc (.cells #[.int .u16 3] 44)).heap.size (w.alloc (.cells #[.int .u16 3] 44)) ((w.alloc (.cells #[.int .u16 3] 44)).alloc (.cells #[.int .u16 3] 44)) := (Below.refl _ _).alloc (Nat.le_refl _) _
  have R2 := Row.new (w.alloc (.cells #[.int .u16 3] 44)) #[.int .u16 3] 44
  rw [S1] at R2
  have R1' := R1.below b2 R1.lt
  have B2 := below_trans B1 b2
  have S2 : ((w.alloc (.cells #[.int .u16 3] 44)).alloc (.cells #[.int .u16 3] 44)).heap.size = w.heap.size + 2 := by simp
  have HS2 : Hid (((w.alloc (.cells #[.int .u16 3] 44)).alloc (.cells #[.int .u16 3] 44)).heap.size = w.heap.size + 2) := S2
  clear S1 S2 R1 B1 b2
  go_enter Try.func14, Try.ntmps14
  go_wp2_with (first
    | (refine wpList_two rfl (.tmp 5) (.tmp 7) rfl (lostH w.heap.size 1).o (lostH (w.heap.size + 1) 2).o rfl rfl ?_
       rw [HS2.out]
       clear hb1 hb2
       generalize (w.alloc (.cells #[.int .u16 3] 44)).alloc (.cells #[.int .u16 3] 44) = w2 at R1' R2 B2 HS2 ⊢
       have b3 : Below w2.heap.size w2 (w2.alloc (.cells (Pa.flat [(lostH w.heap.size 1).o, (lostH (w.heap.size + 1) 2).o]).toArray 39)) := (Below.refl _ _).alloc (Nat.le_refl _) _
       have R3 := Row.new w2 (Pa.flat [(lostH w.heap.size 1).o, (lostH (w.heap.size + 1) 2).o]).toArray 39
       rw [HS2.out] at R3
       have hcheck := HC.out _ (R1'.below b3 R1'.lt) (R2.below b3 R2.lt) R3
       have B3 := below_trans B2 b3
       clear R1' R2 R3 b3 B2 HS2
       generalize w2.alloc (.cells (Pa.flat [(lostH w.heap.size 1).o, (lostH (w.heap.size + 1) 2).o]).toArray 39) = w3 at hcheck B3 ⊢)
    | (go_at_call 11; refine hcheck.mono ?_; clear hcheck; rintro e w4 ⟨he, hb4⟩; obtain rfl := he; have B4 := below_trans B3 hb4; clear hb4 B3))
  go_ret
  exact ⟨rfl, B4⟩
end Go.Proofs.Ytdlllnkcjfpajaa
namespace Go.Proofs.Ytdlllnkcjfpajaa
open Go.ChangeShapes Go.WideShapes Go.ChangeAt Go.RowKit
set_option linter.unusedVariables false
set_option linter.unusedSimpArgs false
set_option maxRecDepth 20000
theorem Sn.Own.off {F : Nat → Prop} {w w' : World} {base : Nat} {v : Value} {os : List Sn.O} (h : Sn.Own w base v os) (ho : Off F w w') (hF : ∀ b, v.ownBlock = some b → ¬ F b) : Sn.Own w' base v os := by
  have hl := World.ownsRow.lt h
  obtain ⟨h1, h2⟩ := h
  refine ⟨h1, ?_⟩
  rcases h2 with h2 | ⟨g, cap, cur, rfl, hb', hc, rest⟩
  · exact Or.inl h2
  · have := hl g (by simp [Value.ownBlock])
    exact Or.inr ⟨g, cap, cur, rfl, hb', (ho.block g this.2 (hF g (by simp [Value.ownBlock]))).trans hc, rest⟩
theorem Sn.Own.cellsOf {w : World} {base : Nat} {v : Value} {os : List Sn.O} (h : Sn.Own w base v os) : ∀ g, v.ownBlock = some g → ∃ cs, w.heap[g]? = some (.cells cs 46 (0, 0)) := fun g hg => by
  rcases h.2 with ⟨rfl, _⟩ | ⟨g', cap, cur, rfl, hb', hc, rest⟩
  · cases hg
  · simp [Value.ownBlock] at hg; subst hg; exact ⟨cur, hc⟩
theorem Pg.Own.off {F : Nat → Prop} {w w' : World} {base : Nat} {v : Value} {os : List Pg.O} (h : Pg.Own w base v os) (ho : Off F w w') (hF : ∀ b, v.ownBlock = some b → ¬ F b) : Pg.Own w' base v os := by
  have hl := World.ownsRow.lt h
  obtain ⟨h1, h2⟩ := h
  refine ⟨h1, ?_⟩
  rcases h2 with h2 | ⟨g, cap, cur, rfl, hb', hc, rest⟩
  · exact Or.inl h2
  · have := hl g (by simp [Value.ownBlock])
    exact Or.inr ⟨g, cap, cur, rfl, hb', (ho.block g this.2 (hF g (by simp [Value.ownBlock]))).trans hc, rest⟩
theorem Pg.Own.cellsOf {w : World} {base : Nat} {v : Value} {os : List Pg.O} (h : Pg.Own w base v os) : ∀ g, v.ownBlock = some g → ∃ cs, w.heap[g]? = some (.cells cs 44 (0, 0)) := fun g hg => by
  rcases h.2 with ⟨rfl, _⟩ | ⟨g', cap, cur, rfl, hb', hc, rest⟩
  · cases hg
  · simp [Value.ownBlock] at hg; subst hg; exact ⟨cur, hc⟩
structure Pt.Num (p : Pt) : Prop where
  st : 0 ≤ p.st ∧ p.st ≤ 4294967295
  co : 0 ≤ p.co ∧ p.co ≤ 4294967295
  rs : ∀ v ∈ p.rs, (0 ≤ v.1 ∧ v.1 ≤ 65535) ∧ 0 ≤ v.2 ∧ v.2 ≤ 4294967295
  ws : ∀ x ∈ p.ws, 0 ≤ x ∧ x ≤ 65535
structure Heldw (w : World) (v : Value) (hs : List Hm) : Prop where
  row : Pa.Olds w v (hs.map Hm.o)
  each : ∀ h ∈ hs, Held1 w h
  num : ∀ h ∈ hs, h.p.Num
  caps : ∀ h ∈ hs, h.r.n ≤ h.r.c ∧ h.w.n ≤ h.w.c
theorem Heldw.hold {w : World} {oa : Option Addr} {n cap : Nat} {hs : List Hm} (hh : Heldw w (.slice oa n cap) hs) {m : Nat} (hm : (hs.map Hm.o).length = m) (i : Nat) (hi : i < m) : ∃ (a : Addr) (h : Hm), oa = some a ∧ hs[i]? = some h ∧ ∀ j u, h.o.cells[j]? = some u → w.cell? ((a.add (i * 5)).add j) = some u := by
  obtain ⟨oa', cap', hv, hcs⟩ := Pa.Olds.hold hh.row
  injection hv with e1 e2 e3
  subst e1
  obtain ⟨a, x0, x1, x2, x3, x4, ha, ho, hc⟩ := hcs i (by rw [hm]; exact hi)
  rw [List.getElem?_map] at ho
  obtain ⟨h, hh', e⟩ := Option.map_eq_some_iff.1 ho
  refine ⟨a, h, ha, hh', fun j u hj => hc j u ?_⟩
  rw [e] at hj
  exact hj
def cutP (p : Pt) : Pt := ⟨p.st, p.co, p.dn, p.rs.take 6, p.ws.take 6⟩
theorem cutP.fit {p : Pt} (h : p.Num) : (cutP p).Fit := ⟨h.st, h.co, fun v hv => h.rs v (List.mem_of_mem_take hv), fun x hx => h.ws x (List.mem_of_mem_take hx), by simp [cutP]; omega, by simp [cutP]; omega⟩
structure Own1 (w : World) (B : Nat) (h : Hm) : Prop where
  rs : Sn.Own w B (.slice h.r.a h.r.n h.r.c) (h.p.rs.map sO)
  ws : Pg.Own w B (.slice h.w.a h.w.n h.w.c) (h.p.ws.map gO)
theorem Own1.held {w : World} {B : Nat} {h : Hm} (o : Own1 w B h) : Held1 w h := ⟨o.rs.olds, o.ws.olds⟩
theorem Own1.keep {w w' : World} {B : Nat} {h : Hm} (o : Own1 w B h) (hb : Below w.heap.size w w') : Own1 w' B h := ⟨o.rs.keep hb, o.ws.keep hb⟩
theorem Own1.apart {F : Nat → Prop} {w w' : World} {B : Nat} {h : Hm} (o : Own1 w B h) (ho : Off F w w') (hF : ∀ k, F k → ∃ cs, w.heap[k]? = some (.cells cs 39 (0, 0))) : Own1 w' B h :=
  ⟨o.rs.off ho (fun b hb q => by obtain ⟨cs, h1⟩ := hF b q; obtain ⟨cs', h2⟩ := o.rs.cellsOf b hb; rw [h1] at h2; cases h2), o.ws.off ho (fun b hb q => by obtain ⟨cs, h1⟩ := hF b q; obtain ⟨cs', h2⟩ := o.ws.cellsOf b hb; rw [h1] at h2; cases h2)⟩
structure FewS (w : World) (B : Nat) (v : Value) (ps qs : List Hm) (k : Nat) : Prop where
  own : Pa.Own w B v (qs.map Hm.o)
  each : ∀ h ∈ qs, Own1 w B h
  same : qs.map Hm.p = (ps.take k).map fun h => cutP h.p
theorem FewS.below {w w' : World} {B : Nat} {v : Value} {ps qs : List Hm} {k : Nat} (h : FewS w B v ps qs k) (hb : Below w.heap.size w w') : FewS w' B v ps qs k := ⟨h.own.keep hb, fun x hx => (h.each x hx).keep hb, h.same⟩
theorem wpList_one {ops : Array Oper} {rest : List Oper} {o : Oper} {a : Act} {w : World} {Q : Exit → Act → World → Prop} (hg : o.guard = none) (x : Operand) (ho : o.op = .buildSlice 22 1 #[(0, x)]) (p : Pa.O) (hx : a.eval x = .agg p.arr)
    (h : wpList Try.prog ops Q rest (a.put o.dst (.slice (some ⟨w.heap.size, 0, none⟩) 1 1)) (w.alloc (.cells p.arr 39))) : wpList Try.prog ops Q (o :: rest) a w := by
  obtain ⟨i, hi, hz, hs, _⟩ := Pa.info_parts Pa.info39
  refine wpList_buildSlice hg 22 39 1 _ ho p.arr i _ Try.underlying22 hi hz (by rw [hs]; decide) (by rw [hs]; decide) ?_ h
  have e1 : (#[(0, x)].map fun (i, x) => (i, a.eval x)).toList = [(0, .agg p.arr)] := by simp [hx]
  rw [e1, fill_step _ _ 0 (.agg p.arr) _ 0 5 (by simp [hs]) (by rfl) (by simp [hs])]
  unfold Instr.fill
  congr 1
  show (⟨splice _ 0 p.arr.toList⟩ : Array Value) = p.arr
  unfold splice
  simp [Pa.O.arr, hs]
end Go.Proofs.Ytdlllnkcjfpajaa
namespace Go.Proofs.Ytdlllnkcjfpajaa
open Go.Deep Go.ChangeShapes Go.WideShapes Go.ChangeAt Go.RowKit
set_option linter.unusedVariables false
set_option linter.unusedSimpArgs false
set_option maxRecDepth 20000
theorem cells4b : Try.prog.cellsOf 4 = 1 := by kernel_rfl
section
variable {H : Type} {enc : TypeId × Value → H}
theorem weights_all {P : Program} {e : TypeId} : ∀ {ds : List (DataW H)} {d : DataW H}, d ∈ ds → ∀ m ∈ d.weights P e, m ∈ DataW.weightsAll P e ds
  | [], d, h, _, _ => nomatch h
  | x :: r, d, h, m, hm => by
    unfold DataW.weightsAll
    rcases List.mem_cons.1 h with rfl | h
    · exact List.mem_append_left _ hm
    · exact List.mem_append_right _ (weights_all h m hm)
structure Rows_ {α : Type} (w : World) (v : Value) (k : Nat) (cells : α → List Value) (os : List α) : Prop where
  form : ∃ oa cap, v = .slice oa os.length cap ∧ os.length ≤ cap ∧ (oa = none → cap = 0) ∧ ∀ i o, os[i]? = some o → ∃ a, oa = some a ∧ ∀ j u, (cells o)[j]? = some u → w.cell? ((a.add (i * k)).add j) = some u
  few : os.length ≤ 140737488355328
theorem open_rows {α : Type} [Inhabited α] {sl e k b : Nat} (hu : Try.prog.underlying sl = some (.slice e)) (hk : Try.prog.cellsOf e = k) (hb : Try.prog.bytesOf e = b) (hb0 : 0 < b) (cells : α → List Value) (hlen : ∀ x, (cells x).length = k) (Ok : World → α → Prop) {w : World}
    (one : ∀ (fuel : Nat) (l : List Value) (x : DataW H × List MemPlace), DataW.trod enc Try.prog w 0 (fun _ => true) true fuel e l = some x → (x.1.weights Try.prog e).all (· ≤ reachBytes) = true → ∃ o, l = cells o ∧ Ok w o)
    {fuel : Nat} {v : Value} {x : DataW H × List MemPlace} (hf : DataW.trod enc Try.prog w 0 (fun _ => true) true fuel sl [v] = some x) (hs : (x.1.weights Try.prog sl).all (· ≤ reachBytes) = true) :
    ∃ os : List α, Rows_ w v k cells os ∧ ∀ o ∈ os, Ok w o := by
  rcases open_slice hu hf with ⟨q, _⟩ | ⟨a, len, cap, m, n, D, Pl, q, _, hle, _, hm, hx, hel⟩
  · simp at q; subst q
    exact ⟨[], ⟨⟨none, 0, rfl, by simp, fun _ => rfl, fun i o h => by simp at h⟩, by simp⟩, fun o h => by simp at h⟩
  · simp at q; subst q
    simp only [if_true] at hm
    subst hm
    subst hx
    have hs' : ∀ x ∈ (DataW.slice ((List.range len).map D) ((List.range (m - len)).map fun j => D (len + j))).weights Try.prog sl, x ≤ reachBytes := fun x hx => by
      have := List.all_eq_true.1 hs x hx
      simpa using this
    have hln : len ≤ 140737488355328 := by
      have := hs' _ (by simp only [DataW.weights, hu]; exact List.mem_cons_self ..)
      rw [hb] at this
      simp at this
      unfold reachBytes at this
      have e : len + (m - len) = m := by omega
      simp only [e] at this
      have h1 : len * 1 ≤ len * b := Nat.mul_le_mul_left _ hb0
      have h2 : len * b ≤ m * b := Nat.mul_le_mul_right _ hle
      have h3 : m * b = b * m := Nat.mul_comm _ _
      omega
    have hw : ∀ i, i < len → ((D i).weights Try.prog e).all (· ≤ reachBytes) = true := fun i hi => by
      refine List.all_eq_true.2 fun x hx => ?_
      have := hs' x (by
        simp only [DataW.weights, hu]
        refine List.mem_cons_of_mem _ (List.mem_append_left _ ?_)
        exact weights_all (List.mem_map.2 ⟨i, List.mem_range.2 hi, rfl⟩) x hx)
      simpa using this
    have hc : ∀ i, ∃ c : α, i < len → Ok w c ∧ ∀ j u, (cells c)[j]? = some u → w.cell? ((a.add (i * k)).add j) = some u := fun i => by
      by_cases hi : i < len
      · obtain ⟨cs', h1, h2⟩ := hel i (by omega)
        rw [hk] at h1
        obtain ⟨c, rfl, ok⟩ := one _ _ _ h2 (hw i hi)
        obtain ⟨_, hl5, hcell⟩ := World.cells?_some h1
        refine ⟨c, fun _ => ⟨ok, fun j u hj => ?_⟩⟩
        have hj5 : j < k := by
          have := (List.getElem?_eq_some_iff.1 hj).1
          have := hlen c
          omega
        rw [hcell j hj5]; exact hj
      · exact ⟨default, fun q => absurd q hi⟩
    obtain ⟨f, hf'⟩ := Classical.axiomOfChoice hc
    refine ⟨(List.range len).map f, ⟨⟨some a, m, by simp, by simpa using hle, (fun q => by cases q), fun i o ho => ?_⟩, by simpa using hln⟩, fun o ho => ?_⟩
    · rw [List.getElem?_map] at ho
      obtain ⟨i', hi', e⟩ := Option.map_eq_some_iff.1 ho
      have hi2 := (List.getElem?_eq_some_iff.1 hi').1
      rw [List.length_range] at hi2
      rw [List.getElem?_range hi2] at hi'
      cases hi'
      subst e
      exact ⟨a, rfl, (hf' i hi2).2⟩
    · obtain ⟨i, hi, rfl⟩ := List.mem_map.1 ho
      exact (hf' i (List.mem_range.1 hi)).1
instance : Inhabited Hm := ⟨⟨⟨0, 0, false, [], []⟩, ⟨none, 0, 0⟩, ⟨none, 0, 0⟩⟩⟩
structure Pasts (w : World) (v : Value) (hs : List Hm) : Prop where
  held : Heldw w v hs
  few : hs.length ≤ 140737488355328
  lens : ∀ h ∈ hs, h.p.rs.length ≤ 140737488355328 ∧ h.p.ws.length ≤ 140737488355328
end
end Go.Proofs.Ytdlllnkcjfpajaa
namespace Go.Proofs.Ytdlllnkcjfpajaa
open Go.ChangeShapes Go.WideShapes Go.ChangeAt Go.RowKit
set_option linter.unusedVariables false
set_option linter.unusedSimpArgs false
set_option maxRecDepth 20000
theorem Heldw.keep {w w' : World} {v : Value} {hs : List Hm} (h : Heldw w v hs) (hb : Below w.heap.size w w') : Heldw w' v hs := ⟨h.row.keep hb, fun x hx => (h.each x hx).keep hb, h.num, h.caps⟩
theorem Pasts.keep {w w' : World} {v : Value} {hs : List Hm} (h : Pasts w v hs) (hb : Below w.heap.size w w') : Pasts w' v hs := ⟨h.held.keep hb, h.few, h.lens⟩
theorem isHF_app (l r : List Pt) (hr : ∀ p ∈ r, p.com = false) : ∀ T, isHF (l ++ r) T = isHF l T := by
  induction l with
  | nil =>
    intro T
    induction r with
    | nil => rfl
    | cons a r ih =>
      have h1 : isHF (a :: r) T = isHF r T := by
        rw [isHF, hr a (by simp)]; rfl
      show isHF (a :: r) T = isHF [] T
      rw [h1]
      exact ih (fun p hp => hr p (by simp [hp]))
  | cons a l ih =>
    intro T
    show isHF (a :: (l ++ r)) T = isHF (a :: l) T
    unfold isHF
    by_cases h : a.com = true
    · rw [if_pos h, if_pos h, ih]
    · rw [if_neg h, if_neg h, ih]
structure AllS (w : World) (B : Nat) (v : Value) (al : List Hm) : Prop where
  own : Pa.Own w B v (al.map Hm.o)
  each : ∀ h ∈ al, Own1 w B h
  fit : ∀ h ∈ al, h.p.Fit
theorem AllS.helds {w : World} {B : Nat} {v : Value} {al : List Hm} (h : AllS w B v al) : Helds w v al := ⟨h.own.olds, fun x hx => (h.each x hx).held, h.fit⟩
theorem AllS.below {w w' : World} {B : Nat} {v : Value} {al : List Hm} (h : AllS w B v al) (hb : Below w.heap.size w w') : AllS w' B v al := ⟨h.own.keep hb, fun x hx => (h.each x hx).keep hb, h.fit⟩
theorem Own1.base {w : World} {B B' : Nat} {h : Hm} (o : Own1 w B h) (hB : B' ≤ B) : Own1 w B' h := ⟨o.rs.base hB, o.ws.base hB⟩
theorem AllS.snoc {w : World} {B : Nat} {v : Value} {al : List Hm} (h : AllS w B v al) {z : Hm} (hz : Own1 w B z) (hf : z.p.Fit) (hn : al.length ≤ 1000) (hB : B ≤ w.heap.size) (ty : TypeId) (Z : Nat) (rZ : Row w Z z.o.arr 39) :
    ∃ v' w', (Builtin.append_ #[22, 22] ty #[v, .slice (some ⟨Z, 0, none⟩) 1 1]).run Try.prog w = .ok v' w' ∧ AllS w' B v' (al ++ [z]) ∧ Off (fun g => v.ownBlock = some g) w w' ∧ (v'.ownBlock = v.ownBlock ∨ ∃ g, v'.ownBlock = some g ∧ w.heap.size ≤ g) := by
  obtain ⟨i, hi, hz0, hs, hby⟩ := Pa.info_parts Pa.info39
  obtain ⟨v', w', hr, h2, h3, h4, h5⟩ := run_append_own_at (P := Try.prog) w B 22 ty 39 i _ 5 64 Try.underlying22 hi hz0 hs hby rfl (by decide) v (al.map Hm.o).length (Pa.flat (al.map Hm.o)) h.own ⟨Z, 0, none⟩ 1 1 z.o.cells rfl (fun j u hj => by rw [Addr.add_mid, Nat.zero_add, cell_of_row w Z j _ _ _ rZ, ← hj]; show z.o.cells.toArray[j]? = _; rw [List.getElem?_toArray]) (fun u hu => Pa.flat_one [z.o] u (by simpa [Pa.flat] using hu)) (by unfold maxLen; simp; omega) (by simp; omega) hB
  have Ou : Off (fun g => v.ownBlock = some g) w w' := Off.of_grown h3 (fun g e => e)
  refine ⟨v', w', hr, ⟨?_, fun x hx => ?_, fun x hx => ?_⟩, Ou, ?_⟩
  · unfold Pa.Own
    rw [List.map_append, Pa.flat_append, List.length_append]
    exact h2
  · rcases List.mem_append.1 hx with hx | hx
    · exact (h.each x hx).apart Ou h.own.cellsOf
    · simp at hx; subst hx; exact hz.apart Ou h.own.cellsOf
  · rcases List.mem_append.1 hx with hx | hx
    · exact h.fit x hx
    · simp at hx; subst hx; exact hf
  · rcases h5 with q | q
    · exact Or.inl q
    · exact Or.inr ⟨_, q, Nat.le_refl _⟩
theorem Own1.off {F : Nat → Prop} {w w' : World} {B : Nat} {h : Hm} (o : Own1 w B h) (ho : Off F w w') (hF : ∀ k, B ≤ k → k < w.heap.size → ¬ F k) : Own1 w' B h :=
  ⟨o.rs.off ho (fun b hb => hF b (World.ownsRow.lt o.rs b hb).1 (World.ownsRow.lt o.rs b hb).2), o.ws.off ho (fun b hb => hF b (World.ownsRow.lt o.ws b hb).1 (World.ownsRow.lt o.ws b hb).2)⟩
theorem Pa.Own.cell_off {F : Nat → Prop} {w w' : World} {base : Nat} {a : Addr} {n cap i j : Nat} {os : List Pa.O} {u : Value} (h : Pa.Own w base (.slice (some a) n cap) os) (ho : Off F w w') (hF : ∀ k, base ≤ k → k < w.heap.size → ¬ F k) (hc : w.cell? ((a.add i).add j) = some u) : w'.cell? ((a.add i).add j) = some u := by
  have hl := World.ownsRow.lt h a.block rfl
  rw [← hc]
  have e : ∀ (b : Addr) m, (b.add m).block = b.block := fun b m => by unfold Addr.add; split <;> rfl
  exact World.cell?_of_block (w := w) (by rw [e, e]; exact ho.block a.block hl.2 (hF _ hl.1 hl.2))
def ResH (ps : List Hm) (x er : Int) : Prop := (isHF (ps.map Hm.p) [] = false ∧ x = 0 ∧ er = 1) ∨ (isHF (ps.map Hm.p) [] = true ∧ er = 0 ∧ ShownH ps x)
theorem ResH.det {ps qs : List Hm} {x er y fr : Int} (h : ResH ps x er) (k : ResH qs y fr) (hf : isHF (ps.map Hm.p) [] = isHF (qs.map Hm.p) []) (hp : ((ps.filter fun h => h.p.dn).map Hm.p).Perm ((qs.filter fun h => h.p.dn).map Hm.p)) : x = y ∧ er = fr := by
  rcases h with ⟨h1, rfl, rfl⟩ | ⟨h1, rfl, h2⟩ <;> rcases k with ⟨k1, rfl, rfl⟩ | ⟨k1, rfl, k2⟩
  · exact ⟨rfl, rfl⟩
  · rw [h1, k1] at hf; cases hf
  · rw [h1, k1] at hf; cases hf
  · exact ⟨h2.det k2 hp, rfl⟩

theorem find_one {hs : List Hm} {z : Hm} {pg ts : Int} (hz : z ∈ hs) (hr : (pg, ts) ∈ z.p.rs) (ht : ts ≠ 0) (hno : ∀ h ∈ hs, pg ∉ h.p.ws) : AbI hs := by
  obtain ⟨i, hi⟩ := List.getElem?_of_mem hz
  exact ⟨i, z, (pg, ts), hi, hr, ht, fun j ⟨h, h1, h2, _⟩ => hno h (List.mem_of_getElem? h1) h2⟩
theorem ShownH.one {ps : List Hm} {x : Int} (h : ShownH ps x) (k : ∀ hs : List Hm, hs.Perm (ps.filter fun h => h.p.dn) → AbI hs) : ∃ c i m, x = bitsH true c i m := by
  obtain ⟨hs, a, c, i, m, h1, _, rfl, h2, _⟩ := h
  rw [h2.2 (k hs h1)]; exact ⟨c, i, m, rfl⟩
structure Under (ks : List Hm) (most pg : Int) : Prop where
  hist : isHF (ks.map Hm.p) [] = true
  st : ∀ h ∈ ks, h.p.st ≤ most ∧ h.p.co ≤ most
  page : ∀ h ∈ ks, pg ∉ h.p.ws
theorem Under.same {ks js : List Hm} {most pg : Int} (h : Under ks most pg) (e : js.map Hm.p = ks.map Hm.p) : Under js most pg := by
  have key : ∀ x ∈ js, ∃ y ∈ ks, y.p = x.p := fun x hx => by
    have : x.p ∈ ks.map Hm.p := by rw [← e]; exact List.mem_map_of_mem hx
    obtain ⟨y, hy, e2⟩ := List.mem_map.1 this
    exact ⟨y, hy, e2⟩
  exact ⟨by rw [e]; exact h.hist, fun x hx => by obtain ⟨y, hy, e2⟩ := key x hx; rw [← e2]; exact h.st y hy, fun x hx => by obtain ⟨y, hy, e2⟩ := key x hx; rw [← e2]; exact h.page y hy⟩
def oneP (most pg ts : Int) : Pt := ⟨most, 0, true, [(pg, ts)], []⟩
def wrP (most c pg : Int) : Pt := ⟨most, c, true, [], [pg]⟩
theorem Under.one {ks : List Hm} {most pg ts : Int} (h : Under ks most pg) {z : Hm} (hz : z.p = oneP most pg ts) (ht : ts ≠ 0) {x er : Int} (hr : ResH (ks ++ [z]) x er) : er = 0 ∧ ∃ c i m, x = bitsH true c i m := by
  have hh : isHF ((ks ++ [z]).map Hm.p) [] = true := by
    rw [List.map_append, isHF_app _ _ (fun p hp => by simp at hp; subst hp; rw [hz]; rfl)]; exact h.hist
  rcases hr with ⟨q, _⟩ | ⟨_, e, hs⟩
  · rw [hh] at q; cases q
  · refine ⟨e, hs.one fun ls hl => find_one (z := z) (pg := pg) (ts := ts) (hl.mem_iff.2 ?_) (by rw [hz]; simp [oneP]) ht (fun y hy => ?_)⟩
    · exact List.mem_filter.2 ⟨by simp, by rw [hz]; rfl⟩
    · have := (List.mem_filter.1 (hl.mem_iff.1 hy)).1
      rcases List.mem_append.1 this with q | q
      · exact h.page y q
      · simp at q; subst q; rw [hz]; simp [oneP]
theorem Own1.caps {w : World} {B : Nat} {h : Hm} (o : Own1 w B h) : h.r.n ≤ h.r.c ∧ h.w.n ≤ h.w.c := by
  refine ⟨?_, ?_⟩
  · rcases o.rs.2 with ⟨e, _⟩ | ⟨g, cap, cur, e, _, _, hle, _⟩
    · injection e with _ e2 e3; omega
    · injection e with _ e2 e3; omega
  · rcases o.ws.2 with ⟨e, _⟩ | ⟨g, cap, cur, e, _, _, hle, _⟩
    · injection e with _ e2 e3; omega
    · injection e with _ e2 e3; omega
theorem wpList_seen {ops : Array Oper} {rest : List Oper} {o : Oper} {a : Act} {w : World} {Q : Exit → Act → World → Prop} (hg : o.guard = none) (x : Operand) (ho : o.op = .buildSlice 36 1 #[(0, x)]) (p t : Int) (hx : a.eval x = .agg #[.int .u16 p, .int .u32 t])
    (h : wpList Try.prog ops Q rest (a.put o.dst (.slice (some ⟨w.heap.size, 0, none⟩) 1 1)) (w.alloc (.cells #[.int .u16 p, .int .u32 t] 46))) : wpList Try.prog ops Q (o :: rest) a w := by
  obtain ⟨i, hi, hz, hs, _⟩ := Sn.info_parts Sn.info46
  refine wpList_buildSlice hg 36 46 1 _ ho #[.int .u16 p, .int .u32 t] i _ Try.underlying36 hi hz (by rw [hs]; decide) (by rw [hs]; decide) ?_ h
  have e1 : (#[(0, x)].map fun (i, x) => (i, a.eval x)).toList = [(0, .agg #[.int .u16 p, .int .u32 t])] := by simp [hx]
  rw [e1, fill_step _ _ 0 (.agg #[.int .u16 p, .int .u32 t]) _ 0 2 (by simp [hs]) (by rfl) (by simp [hs])]
  unfold Instr.fill
  congr 1
  show (⟨splice _ 0 [Value.int .u16 p, .int .u32 t]⟩ : Array Value) = #[.int .u16 p, .int .u32 t]
  unfold splice
  simp [hs]
theorem AllS.base {w : World} {B B' : Nat} {v : Value} {al : List Hm} (h : AllS w B v al) (hB : B' ≤ B) : AllS w B' v al := ⟨h.own.base hB, fun x hx => (h.each x hx).base hB, h.fit⟩
def readH (most pg ts : Int) (b : Nat) : Hm := ⟨oneP most pg ts, ⟨some ⟨b, 0, none⟩, 1, 1⟩, ⟨none, 0, 0⟩⟩
def writeH (most c pg : Int) (b : Nat) : Hm := ⟨wrP most c pg, ⟨none, 0, 0⟩, ⟨some ⟨b, 0, none⟩, 1, 1⟩⟩
theorem readH.own {w : World} {B b : Nat} {most pg ts : Int} (r : Row w b #[.int .u16 pg, .int .u32 ts] 46) (hB : B ≤ b) : Own1 w B (readH most pg ts b) :=
  ⟨⟨rfl, Or.inr ⟨b, 1, #[.int .u16 pg, .int .u32 ts], rfl, hB, r, by simp [readH, oneP], by unfold maxLen; omega, rfl, rfl⟩⟩, ⟨rfl, Or.inl ⟨rfl, rfl⟩⟩⟩
theorem writeH.own {w : World} {B b : Nat} {most c pg : Int} (r : Row w b #[.int .u16 pg] 44) (hB : B ≤ b) : Own1 w B (writeH most c pg b) :=
  ⟨⟨rfl, Or.inl ⟨rfl, rfl⟩⟩, ⟨rfl, Or.inr ⟨b, 1, #[.int .u16 pg], rfl, hB, r, by simp [writeH, wrP], by unfold maxLen; omega, rfl, rfl⟩⟩⟩
theorem oneP.fit {most pg ts : Int} (h1 : 0 ≤ most ∧ most ≤ 4294967295) (h2 : 0 ≤ pg ∧ pg ≤ 65535) (h3 : 0 ≤ ts ∧ ts ≤ 4294967295) : (oneP most pg ts).Fit := ⟨h1, ⟨Int.le_refl _, by simp [oneP]⟩, fun v hv => by simp [oneP] at hv; subst hv; exact ⟨h2, h3⟩, fun x hx => by simp [oneP] at hx, by simp [oneP], by simp [oneP]⟩
theorem wrP.fit {most c pg : Int} (h1 : 0 ≤ most ∧ most ≤ 4294967295) (h2 : 0 ≤ pg ∧ pg ≤ 65535) (h3 : 0 ≤ c ∧ c ≤ 4294967295) : (wrP most c pg).Fit := ⟨h1, h3, fun v hv => by simp [wrP] at hv, fun x hx => by simp [wrP] at hx; subst hx; exact h2, by simp [wrP], by simp [wrP]⟩
theorem built46p (p t : Int) : Try.prog.built 46 [(0, .int .u16 p), (1, .int .u32 t)] = some #[.int .u16 p, .int .u32 t] := by kernel_rfl
end Go.Proofs.Ytdlllnkcjfpajaa
