/-
  Plain facts: what a history shows does not turn with the order of its transactions. Proved here: awake: a lost update is seen. Proved here: few, the law's copy of a history.
-/
import Derived.Test.YtdlllnkcjfpajaaJq14
namespace Go.Proofs.Ytdlllnkcjfpajaa
open Go.ChangeShapes Go.WideShapes Go.ChangeAt Go.RowKit
set_option linter.unusedVariables false
set_option linter.unusedSimpArgs false
set_option maxRecDepth 20000
open Relation
theorem perm_map {α : Type} {l l' : List α} (h : l.Perm l') : ∃ s t : Nat → Nat, (∀ i x, l[i]? = some x → l'[s i]? = some x) ∧ (∀ i x, l'[i]? = some x → l[t i]? = some x) ∧ (∀ i, i < l'.length → s (t i) = i) ∧ ∀ i, i < l.length → t (s i) = i := by
  induction h with
  | nil => exact ⟨id, id, fun i x h => h, fun i x h => h, fun _ _ => rfl, fun _ _ => rfl⟩
  | cons a _ ih =>
    obtain ⟨s, t, h1, h2, h3, h4⟩ := ih
    refine ⟨fun i => if i = 0 then 0 else s (i - 1) + 1, fun i => if i = 0 then 0 else t (i - 1) + 1, fun i x h => ?_, fun i x h => ?_, fun i h => ?_, fun i h => ?_⟩
    · cases i with
      | zero => simpa using h
      | succ i => simpa using h1 i x (by simpa using h)
    · cases i with
      | zero => simpa using h
      | succ i => simpa using h2 i x (by simpa using h)
    · cases i with
      | zero => simp
      | succ i => simpa using h3 i (by simpa using h)
    · cases i with
      | zero => simp
      | succ i => simpa using h4 i (by simpa using h)
  | swap a b l =>
    have key : ∀ (a b : α) (i : Nat) x, (b :: a :: l)[i]? = some x → (a :: b :: l)[if i = 0 then 1 else if i = 1 then 0 else i]? = some x := fun a b i x h => by
      match i with
      | 0 => simpa using h
      | 1 => simpa using h
      | i + 2 => simpa using h
    refine ⟨fun i => if i = 0 then 1 else if i = 1 then 0 else i, fun i => if i = 0 then 1 else if i = 1 then 0 else i, key a b, key b a, fun i _ => ?_, fun i _ => ?_⟩
    all_goals (by_cases e0 : i = 0 <;> by_cases e1 : i = 1 <;> simp [e0, e1] <;> omega)
  | trans _ _ ih1 ih2 =>
    obtain ⟨s, t, h1, h2, h3, h4⟩ := ih1
    obtain ⟨s', t', g1, g2, g3, g4⟩ := ih2
    refine ⟨s' ∘ s, t ∘ t', fun i x h => g1 _ _ (h1 _ _ h), fun i x h => h2 _ _ (g2 _ _ h), fun i h => ?_, fun i h => ?_⟩
    · have hx := g2 i _ (List.getElem?_eq_getElem h)
      have := (List.getElem?_eq_some_iff.1 hx).1
      show s' (s (t (t' i))) = i
      rw [h3 _ this, g3 i h]
    · have hx := h1 i _ (List.getElem?_eq_getElem h)
      have := (List.getElem?_eq_some_iff.1 hx).1
      show t (t' (s' (s i))) = i
      rw [g4 _ this, h4 i h]
structure Iso (hs ks : List Hm) (s t : Nat → Nat) : Prop where
  frw : ∀ i h, hs[i]? = some h → ∃ k, ks[s i]? = some k ∧ k.p = h.p
  fro : ∀ i k, ks[i]? = some k → ∃ h, hs[t i]? = some h ∧ h.p = k.p
  st : ∀ i, i < ks.length → s (t i) = i
  ts : ∀ i, i < hs.length → t (s i) = i
theorem Iso.symm {hs ks : List Hm} {s t : Nat → Nat} (h : Iso hs ks s t) : Iso ks hs t s := ⟨h.fro, h.frw, h.ts, h.st⟩
theorem Iso.of_perm {hs ks : List Hm} (h : (hs.map Hm.p).Perm (ks.map Hm.p)) : ∃ s t, Iso hs ks s t := by
  obtain ⟨s, t, h1, h2, h3, h4⟩ := perm_map h
  have key : ∀ (l l' : List Hm) (s : Nat → Nat), (∀ i x, (l.map Hm.p)[i]? = some x → (l'.map Hm.p)[s i]? = some x) → ∀ i h, l[i]? = some h → ∃ k, l'[s i]? = some k ∧ k.p = h.p := fun l l' s hh i h hi => by
    have := hh i h.p (by rw [List.getElem?_map, hi]; rfl)
    rw [List.getElem?_map] at this
    obtain ⟨k, hk, e⟩ := Option.map_eq_some_iff.1 this
    exact ⟨k, hk, e⟩
  exact ⟨s, t, key _ _ _ h1, key _ _ _ h2, fun i hi => h3 i (by simpa using hi), fun i hi => h4 i (by simpa using hi)⟩
section
variable {hs ks : List Hm} {s t : Nat → Nat} (I : Iso hs ks s t)
include I
theorem Iso.inj {i j : Nat} (hi : i < hs.length) (hj : j < hs.length) (e : s i = s j) : i = j := by rw [← I.ts i hi, ← I.ts j hj, e]
theorem Iso.wr {j : Nat} {v : Int × Int} (h : WrI hs j v) : WrI ks (s j) v := by
  obtain ⟨x, h1, h2, h3⟩ := h
  obtain ⟨y, h4, h5⟩ := I.frw j x h1
  exact ⟨y, h4, by rw [h5]; exact h2, by rw [h5]; exact h3⟩
theorem Iso.nx {k : Nat} {v : Int × Int} (h : NxI hs v k) : NxI ks v (s k) := by
  obtain ⟨q, h1, h2, h3⟩ := h
  exact ⟨q, I.wr h1, h2, fun k' t' h4 h5 => h3 _ t' (I.symm.wr h4) h5⟩
theorem Iso.dep {i j : Nat} (h : DepI hs ((i : Int), (j : Int))) : DepI ks ((s i : Int), (s j : Int)) := by
  rcases h with ⟨v, a, b, h1, h2, h3, e⟩ | ⟨a, x, v, h1, h2, ⟨b, h3, h4, e⟩⟩
  · have e1 := congrArg Prod.fst e; have e2 := congrArg Prod.snd e; simp at e1 e2
    obtain rfl : i = a := by omega
    obtain rfl : j = b := by omega
    exact Or.inl ⟨v, s i, s j, I.wr h1, I.nx h2, fun q => h3 (I.inj h1.lt h2.lt q), rfl⟩
  · have e1 := congrArg Prod.fst e; have e2 := congrArg Prod.snd e; simp at e1 e2
    obtain rfl : i = b := by omega
    obtain rfl : j = a := by omega
    obtain ⟨y, h5, h6⟩ := I.frw j x h1
    exact Or.inr ⟨s j, y, v, h5, by rw [h6]; exact h2, ⟨s i, I.wr h3, fun q => h4 (I.inj h3.lt (List.getElem?_eq_some_iff.1 h1).1 q), rfl⟩⟩
theorem Iso.pas {i j : Nat} (h : PasI hs ((i : Int), (j : Int))) : PasI ks ((s i : Int), (s j : Int)) := by
  obtain ⟨a, x, v, h1, h2, h3, b, h4, h5, e⟩ := h
  have e1 := congrArg Prod.fst e; have e2 := congrArg Prod.snd e; simp at e1 e2
  obtain rfl : i = b := by omega
  obtain rfl : j = a := by omega
  obtain ⟨y, h6, h7⟩ := I.frw j x h1
  refine ⟨s j, y, v, h6, by rw [h7]; exact h2, ?_, s i, I.nx h4, fun q => h5 (I.inj h4.lt (List.getElem?_eq_some_iff.1 h1).1 q), rfl⟩
  rcases h3 with ⟨c, hc⟩ | h3
  · exact Or.inl ⟨s c, I.wr hc⟩
  · exact Or.inr h3
theorem Iso.ab (h : AbI hs) : AbI ks := by
  obtain ⟨i, x, v, h1, h2, h3, h4⟩ := h
  obtain ⟨y, h5, h6⟩ := I.frw i x h1
  exact ⟨s i, y, v, h5, by rw [h6]; exact h2, h3, fun j q => h4 _ (I.symm.wr q)⟩
theorem Iso.edge {i j : Nat} (h : Edge hs i j) : Edge ks (s i) (s j) := by
  rcases h with h | ⟨x, y, h1, h2, h3⟩
  · exact Or.inl (I.dep h)
  · obtain ⟨x', h4, h5⟩ := I.frw i x h1
    obtain ⟨y', h6, h7⟩ := I.frw j y h2
    exact Or.inr ⟨x', y', h4, h6, by rw [h5, h7]; exact h3⟩
theorem Iso.come {i j : Nat} (h : Come (Edge hs) i j) : Come (Edge ks) (s i) (s j) := by
  induction h with
  | here => exact .here
  | step _ r ih => exact .step ih (I.edge r)
theorem Iso.cir (h : CirI hs) : CirI ks := by
  obtain ⟨x, hx⟩ := h
  have : ∀ a b, TransGen (fun a b : Nat => DepI hs ((a : Int), (b : Int))) a b → TransGen (fun a b : Nat => DepI ks ((a : Int), (b : Int))) (s a) (s b) := fun a b q => by
    induction q with
    | single r => exact .single (I.dep r)
    | tail _ r ih => exact .tail ih (I.dep r)
  exact ⟨s x, this x x hx⟩
theorem Iso.int (h : InI hs) : InI ks := by
  obtain ⟨_, h1, i, j, x, y, rfl, h2, h3, h4⟩ := h
  obtain ⟨x', h5, h6⟩ := I.frw i x h2
  obtain ⟨y', h7, h8⟩ := I.frw j y h3
  exact ⟨_, I.dep h1, s i, s j, x', y', rfl, h5, h7, by rw [h6, h8]; exact h4⟩
theorem Iso.mis (h : MisI hs) : MisI ks := by
  obtain ⟨i, j, h1, h2⟩ := h
  exact ⟨s i, s j, I.pas h1, I.come h2⟩
end
theorem ShownH.det {ps qs : List Hm} {x y : Int} (h : ShownH ps x) (k : ShownH qs y) (hp : ((ps.filter fun h => h.p.dn).map Hm.p).Perm ((qs.filter fun h => h.p.dn).map Hm.p)) : x = y := by
  obtain ⟨hs, a, c, i, m, h1, _, rfl, h2, h3, h4, h5⟩ := h
  obtain ⟨ks, a', c', i', m', k1, _, rfl, k2, k3, k4, k5⟩ := k
  obtain ⟨s, t, I⟩ := Iso.of_perm (((h1.map Hm.p).trans hp).trans (k1.map Hm.p).symm)
  have ea : a = a' := Bool.eq_iff_iff.2 (h2.trans ((Iff.intro I.ab I.symm.ab).trans k2.symm))
  have ec : c = c' := Bool.eq_iff_iff.2 (h3.trans ((Iff.intro I.cir I.symm.cir).trans k3.symm))
  have ei : i = i' := Bool.eq_iff_iff.2 (h4.trans ((Iff.intro I.int I.symm.int).trans k4.symm))
  have em : m = m' := Bool.eq_iff_iff.2 (h5.trans ((Iff.intro I.mis I.symm.mis).trans k5.symm))
  rw [ea, ec, ei, em]
theorem built39 (c : Int) (b : Nat) : Try.prog.built 39 [(1, .int .u32 c), (2, .bool true), (4, .slice (some ⟨b, 0, none⟩) 1 1)] = some #[.int .u32 0, .int .u32 c, .bool true, .slice none 0 0, .slice (some ⟨b, 0, none⟩) 1 1] := by kernel_rfl
def lostH (b : Nat) (c : Int) : Hm := ⟨⟨0, c, true, [], [3]⟩, ⟨none, 0, 0⟩, ⟨some ⟨b, 0, none⟩, 1, 1⟩⟩
theorem lost_wr {a b : Nat} {j : Nat} {v : Int × Int} (h : WrI [lostH a 1, lostH b 2] j v) : v.1 = 3 ∧ v.2 = (j : Int) + 1 ∧ j < 2 := by
  obtain ⟨x, h1, h2, h3⟩ := h
  match j with
  | 0 => simp at h1; subst h1; simp [lostH] at h2 h3; exact ⟨h2, h3, by omega⟩
  | 1 => simp at h1; subst h1; simp [lostH] at h2 h3; exact ⟨h2, h3, by omega⟩
  | j + 2 => simp at h1
theorem lost_rs {a b : Nat} {i : Nat} {x : Hm} {v : Int × Int} (h : [lostH a 1, lostH b 2][i]? = some x) (hv : v ∈ x.p.rs) : False := by
  match i with
  | 0 => simp at h; subst h; simp [lostH] at hv
  | 1 => simp at h; subst h; simp [lostH] at hv
  | j + 2 => simp at h
theorem lost_dep {a b i j : Nat} (h : DepI [lostH a 1, lostH b 2] ((i : Int), (j : Int))) : i < j := by
  rcases h with ⟨v, i', j', h1, ⟨t, h2, h3, _⟩, _, e⟩ | ⟨i', x, v, h1, h2, _⟩
  · have e1 := congrArg Prod.fst e; have e2 := congrArg Prod.snd e; simp at e1 e2
    have := (lost_wr h1).2.1
    have := (lost_wr h2).2.1
    simp at this
    omega
  · exact (lost_rs h1 h2).elim
theorem lost_shown (a b : Nat) : ShownH [lostH a 1, lostH b 2] 4 := by
  refine ⟨[lostH a 1, lostH b 2], false, false, true, false, ?_, ?_, rfl, ⟨(fun q => by cases q), fun q => ?_⟩, ⟨(fun q => by cases q), fun q => ?_⟩, ⟨fun _ => ?_, fun _ => rfl⟩, ⟨(fun q => by cases q), fun q => ?_⟩⟩
  · simp [lostH]
  · intro i j v h1 h2
    have := (lost_wr h1).2.1
    have := (lost_wr h2).2.1
    omega
  · obtain ⟨i, x, v, h1, h2, _⟩ := q
    exact (lost_rs h1 h2).elim
  · obtain ⟨x, hx⟩ := q
    exact (no_circle (fun x : Nat => x) (fun a b h => lost_dep h) x hx).elim
  · have w0 : WrI [lostH a 1, lostH b 2] 0 (3, 1) := ⟨_, rfl, by simp [lostH], rfl⟩
    have w1 : WrI [lostH a 1, lostH b 2] 1 (3, 2) := ⟨_, rfl, by simp [lostH], rfl⟩
    refine ⟨_, Or.inl ⟨(3, 1), 0, 1, w0, ⟨2, w1, by decide, fun k t' hk ht => ?_⟩, by decide, rfl⟩, 0, 1, _, _, rfl, rfl, rfl, ?_⟩
    · simp at ht; omega
    · simp [lostH, Pt.en, Pt.com]
  · obtain ⟨i, j, ⟨_, x, v, h1, h2, _⟩, _⟩ := q
    exact (lost_rs h1 h2).elim
theorem wpList_two {ops : Array Oper} {rest : List Oper} {o : Oper} {a : Act} {w : World} {Q : Exit → Act → World → Prop} (hg : o.guard = none) (x y : Operand) (ho : o.op = .buildSlice 22 2 #[(0, x), (1, y)]) (p q : Pa.O) (hx : a.eval x = .agg p.arr) (hy : a.eval y = .agg q.arr)
    (h : wpList Try.prog ops Q rest (a.put o.dst (.slice (some ⟨w.heap.size, 0, none⟩) 2 2)) (w.alloc (.cells (Pa.flat [p, q]).toArray 39))) : wpList Try.prog ops Q (o :: rest) a w := by
  obtain ⟨i, hi, hz, hs, _⟩ := Pa.info_parts Pa.info39
  refine wpList_buildSlice hg 22 39 2 _ ho (Pa.flat [p, q]).toArray i _ Try.underlying22 hi hz (by rw [hs]; decide) (by rw [hs]; decide) ?_ h
  have e1 : (#[(0, x), (1, y)].map fun (i, x) => (i, a.eval x)).toList = [(0, .agg p.arr), (1, .agg q.arr)] := by simp [hx, hy]
  rw [e1, fill_step _ _ 0 (.agg p.arr) _ 0 5 (by simp [hs]) (by rfl) (by simp [hs]), fill_step _ _ 1 (.agg q.arr) _ 5 5 (by simp [hs]) (by rfl) (by simp [splice, hs, Value.cells, Pa.O.arr])]
  unfold Instr.fill
  congr 1
  show (⟨splice (splice _ 0 p.cells) 5 q.cells⟩ : Array Value) = ⟨Pa.flat [p, q]⟩
  congr 1
  unfold splice Pa.flat
  simp [Pa.O.cells, hs]
set_option maxHeartbeats 2000000 in
theorem awake_any (w : World) : Calls Try.prog 14 #[] w fun e w' => e = .returned (.bool true) ∧ Below w.heap.size w w' := by
  have hb1 := built39 1
  have hb2 := built39 2
  have HC : Hid (∀ w3 : World, Row w3 w.heap.size #[.int .u16 3] 44 → Row w3 (w.heap.size + 1) #[.int .u16 3] 44 → Row w3 (w.heap.size + 2) (Pa.flat [(lostH w.heap.size 1).o, (lostH (w.heap.size + 1) 2).o]).toArray 39 → Calls Try.prog 11 #[.slice (some ⟨w.heap.size + 2, 0, none⟩) 2 2] w3 fun e w' => e = .returned (.tuple #[.int .u8 4, .int .i64 0]) ∧ Below w3.heap.size w3 w') := fun w3 r1 r2 r3 => by
    have h1 : ∀ (b : Nat) (c : Int), Row w3 b #[.int .u16 3] 44 → Held1 w3 (lostH b c) := fun b c r => ⟨Or.inl ⟨rfl, rfl⟩, Or.inr ⟨⟨b, 0, none⟩, 1, rfl, fun j u hj => by
      match j with
      | 0 =>
        simp [lostH, Pg.flat, gO, Pg.O.cells] at hj
        subst hj
        rw [addr_zero]
        exact row_at r 0 _ rfl
      | j + 1 => simp [lostH, Pg.flat, gO, Pg.O.cells] at hj⟩⟩
    have hh : Helds w3 (.slice (some ⟨w.heap.size + 2, 0, none⟩) 2 2) [lostH w.heap.size 1, lostH (w.heap.size + 1) 2] := ⟨Or.inr ⟨⟨w.heap.size + 2, 0, none⟩, 2, rfl, fun j u hj => by
      rw [Addr.add_mid, Nat.zero_add, cell_of_row _ _ _ _ _ _ r3, ← hj, List.getElem?_toArray]; rfl⟩, fun h hm => by
        simp at hm
        rcases hm with rfl | rfl
        · exact h1 _ _ r1
        · exact h1 _ _ r2, fun h hm => by
        simp at hm
        rcases hm with rfl | rfl <;> exact ⟨by simp [lostH], by simp [lostH], by simp [lostH], by simp [lostH], by simp [lostH], by simp [lostH]⟩⟩
    refine (check_any hh (by simp) (by simp [lostH])).mono fun e w' ⟨hb, hr⟩ => ?_
    rcases hr with ⟨q, _⟩ | ⟨_, x, rfl, hx⟩
    · simp [lostH, isHF, Pt.com] at q
    · refine ⟨?_, hb⟩
      rw [ShownH.det hx (lost_shown w.heap.size (w.heap.size + 1)) (List.Perm.refl _)]
  have R1 : Row (w.alloc (.cells #[.int .u16 3] 44)) w.heap.size #[.int .u16 3] 44 := Row.new _ _ _
  have S1 : (w.alloc (.cells #[.int .u16 3] 44)).heap.size = w.heap.size + 1 := by simp
  have B1 : Below w.heap.size w (w.alloc (.cells #[.int .u16 3] 44)) := (Below.refl _ _).alloc (Nat.le_refl _) _
  have b2 : Below (w.alloc (.cells #[.int .u16 3] 44)).heap.size (w.alloc (.cells #[.int .u16 3] 44)) ((w.alloc (.cells #[.int .u16 3] 44)).alloc (.cells #[.int .u16 3] 44)) := (Below.refl _ _).alloc (Nat.le_refl _) _
  have R2 := Row.new (w.alloc (.cells #[.int .u16 3] 44)) #[.int .u16 3] 44
  rw [S1] at R2
  have R1' := R1.below b2 R1.lt
  have B2 := below_trans B1 b2
  have S2 : ((w.alloc (.cells #[.int .u16 3] 44)).alloc (.cells #[.int .u16 3] 44)).heap.size = w.heap.size + 2 := by simp
  have HS2 : Hid (((w.alloc (.cells #[.int .u16 3] 44)).alloc (.cells #[.int .u16 3] 44)).heap.size = w.heap.size + 2) := S2
  clear S1 S2 R1 B1 b2
  go_enter Try.func14, Try.ntmps14
  go_wp2_with (first
    | (refine wpList_two rfl (.tmp 5) (.tmp 7) rfl (lostH w.heap.size 1).o (lostH (w.heap.size + 1) 2).o rfl rfl ?_
       rw [HS2.out]
       clear hb1 hb2
       generalize (w.alloc (.cells #[.int .u16 3] 44)).alloc (.cells #[.int .u16 3] 44) = w2 at R1' R2 B2 HS2 ⊢
       have b3 : Below w2.heap.size w2 (w2.alloc (.cells (Pa.flat [(lostH w.heap.size 1).o, (lostH (w.heap.size + 1) 2).o]).toArray 39)) := (Below.refl _ _).alloc (Nat.le_refl _) _
       have R3 := Row.new w2 (Pa.flat [(lostH w.heap.size 1).o, (lostH (w.heap.size + 1) 2).o]).toArray 39
       rw [HS2.out] at R3
       have hcheck := HC.out _ (R1'.below b3 R1'.lt) (R2.below b3 R2.lt) R3
       have B3 := below_trans B2 b3
       clear R1' R2 R3 b3 B2 HS2
       generalize w2.alloc (.cells (Pa.flat [(lostH w.heap.size 1).o, (lostH (w.heap.size + 1) 2).o]).toArray 39) = w3 at hcheck B3 ⊢)
    | (go_at_call 11; refine hcheck.mono ?_; clear hcheck; rintro e w4 ⟨he, hb4⟩; obtain rfl := he; have B4 := below_trans B3 hb4; clear hb4 B3))
  go_ret
  exact ⟨rfl, B4⟩
end Go.Proofs.Ytdlllnkcjfpajaa
namespace Go.Proofs.Ytdlllnkcjfpajaa
open Go.ChangeShapes Go.WideShapes Go.ChangeAt Go.RowKit
set_option linter.unusedVariables false
set_option linter.unusedSimpArgs false
set_option maxRecDepth 20000
theorem Sn.Own.off {F : Nat → Prop} {w w' : World} {base : Nat} {v : Value} {os : List Sn.O} (h : Sn.Own w base v os) (ho : Off F w w') (hF : ∀ b, v.ownBlock = some b → ¬ F b) : Sn.Own w' base v os := by
  have hl := World.ownsRow.lt h
  obtain ⟨h1, h2⟩ := h
  refine ⟨h1, ?_⟩
  rcases h2 with h2 | ⟨g, cap, cur, rfl, hb', hc, rest⟩
  · exact Or.inl h2
  · have := hl g (by simp [Value.ownBlock])
    exact Or.inr ⟨g, cap, cur, rfl, hb', (ho.block g this.2 (hF g (by simp [Value.ownBlock]))).trans hc, rest⟩
theorem Sn.Own.cellsOf {w : World} {base : Nat} {v : Value} {os : List Sn.O} (h : Sn.Own w base v os) : ∀ g, v.ownBlock = some g → ∃ cs, w.heap[g]? = some (.cells cs 46 (0, 0)) := fun g hg => by
  rcases h.2 with ⟨rfl, _⟩ | ⟨g', cap, cur, rfl, hb', hc, rest⟩
  · cases hg
  · simp [Value.ownBlock] at hg; subst hg; exact ⟨cur, hc⟩
theorem Pg.Own.off {F : Nat → Prop} {w w' : World} {base : Nat} {v : Value} {os : List Pg.O} (h : Pg.Own w base v os) (ho : Off F w w') (hF : ∀ b, v.ownBlock = some b → ¬ F b) : Pg.Own w' base v os := by
  have hl := World.ownsRow.lt h
  obtain ⟨h1, h2⟩ := h
  refine ⟨h1, ?_⟩
  rcases h2 with h2 | ⟨g, cap, cur, rfl, hb', hc, rest⟩
  · exact Or.inl h2
  · have := hl g (by simp [Value.ownBlock])
    exact Or.inr ⟨g, cap, cur, rfl, hb', (ho.block g this.2 (hF g (by simp [Value.ownBlock]))).trans hc, rest⟩
theorem Pg.Own.cellsOf {w : World} {base : Nat} {v : Value} {os : List Pg.O} (h : Pg.Own w base v os) : ∀ g, v.ownBlock = some g → ∃ cs, w.heap[g]? = some (.cells cs 44 (0, 0)) := fun g hg => by
  rcases h.2 with ⟨rfl, _⟩ | ⟨g', cap, cur, rfl, hb', hc, rest⟩
  · cases hg
  · simp [Value.ownBlock] at hg; subst hg; exact ⟨cur, hc⟩
structure Pt.Num (p : Pt) : Prop where
  st : 0 ≤ p.st ∧ p.st ≤ 4294967295
  co : 0 ≤ p.co ∧ p.co ≤ 4294967295
  rs : ∀ v ∈ p.rs, (0 ≤ v.1 ∧ v.1 ≤ 65535) ∧ 0 ≤ v.2 ∧ v.2 ≤ 4294967295
  ws : ∀ x ∈ p.ws, 0 ≤ x ∧ x ≤ 65535
structure Heldw (w : World) (v : Value) (hs : List Hm) : Prop where
  row : Pa.Olds w v (hs.map Hm.o)
  each : ∀ h ∈ hs, Held1 w h
  num : ∀ h ∈ hs, h.p.Num
  caps : ∀ h ∈ hs, h.r.n ≤ h.r.c ∧ h.w.n ≤ h.w.c
theorem Heldw.hold {w : World} {oa : Option Addr} {n cap : Nat} {hs : List Hm} (hh : Heldw w (.slice oa n cap) hs) {m : Nat} (hm : (hs.map Hm.o).length = m) (i : Nat) (hi : i < m) : ∃ (a : Addr) (h : Hm), oa = some a ∧ hs[i]? = some h ∧ ∀ j u, h.o.cells[j]? = some u → w.cell? ((a.add (i * 5)).add j) = some u := by
  obtain ⟨oa', cap', hv, hcs⟩ := Pa.Olds.hold hh.row
  injection hv with e1 e2 e3
  subst e1
  obtain ⟨a, x0, x1, x2, x3, x4, ha, ho, hc⟩ := hcs i (by rw [hm]; exact hi)
  rw [List.getElem?_map] at ho
  obtain ⟨h, hh', e⟩ := Option.map_eq_some_iff.1 ho
  refine ⟨a, h, ha, hh', fun j u hj => hc j u ?_⟩
  rw [e] at hj
  exact hj
def cutP (p : Pt) : Pt := ⟨p.st, p.co, p.dn, p.rs.take 6, p.ws.take 6⟩
theorem cutP.fit {p : Pt} (h : p.Num) : (cutP p).Fit := ⟨h.st, h.co, fun v hv => h.rs v (List.mem_of_mem_take hv), fun x hx => h.ws x (List.mem_of_mem_take hx), by simp [cutP]; omega, by simp [cutP]; omega⟩
structure Own1 (w : World) (B : Nat) (h : Hm) : Prop where
  rs : Sn.Own w B (.slice h.r.a h.r.n h.r.c) (h.p.rs.map sO)
  ws : Pg.Own w B (.slice h.w.a h.w.n h.w.c) (h.p.ws.map gO)
theorem Own1.held {w : World} {B : Nat} {h : Hm} (o : Own1 w B h) : Held1 w h := ⟨o.rs.olds, o.ws.olds⟩
theorem Own1.keep {w w' : World} {B : Nat} {h : Hm} (o : Own1 w B h) (hb : Below w.heap.size w w') : Own1 w' B h := ⟨o.rs.keep hb, o.ws.keep hb⟩
theorem Own1.apart {F : Nat → Prop} {w w' : World} {B : Nat} {h : Hm} (o : Own1 w B h) (ho : Off F w w') (hF : ∀ k, F k → ∃ cs, w.heap[k]? = some (.cells cs 39 (0, 0))) : Own1 w' B h :=
  ⟨o.rs.off ho (fun b hb q => by obtain ⟨cs, h1⟩ := hF b q; obtain ⟨cs', h2⟩ := o.rs.cellsOf b hb; rw [h1] at h2; cases h2), o.ws.off ho (fun b hb q => by obtain ⟨cs, h1⟩ := hF b q; obtain ⟨cs', h2⟩ := o.ws.cellsOf b hb; rw [h1] at h2; cases h2)⟩
structure FewS (w : World) (B : Nat) (v : Value) (ps qs : List Hm) (k : Nat) : Prop where
  own : Pa.Own w B v (qs.map Hm.o)
  each : ∀ h ∈ qs, Own1 w B h
  same : qs.map Hm.p = (ps.take k).map fun h => cutP h.p
theorem FewS.below {w w' : World} {B : Nat} {v : Value} {ps qs : List Hm} {k : Nat} (h : FewS w B v ps qs k) (hb : Below w.heap.size w w') : FewS w' B v ps qs k := ⟨h.own.keep hb, fun x hx => (h.each x hx).keep hb, h.same⟩
theorem FewS.offT {w w' : World} {B T : Nat} {cs : Array Value} {v : Value} {ps qs : List Hm} {k : Nat} (h : FewS w B v ps qs k) (ho : Off (· = T) w w') (hT : Row w T cs 39) (hv : ∀ g, v.ownBlock = some g → g ≠ T) : FewS w' B v ps qs k :=
  ⟨h.own.off ho (fun g hg e => hv g hg e), fun x hx => (h.each x hx).apart ho (fun k e => ⟨cs, by rw [e]; exact hT⟩), h.same⟩
def Fewed (w : World) (ps : List Hm) (e : Ending) (w' : World) : Prop := ∃ v qs, e = .returned v ∧ Helds w' v qs ∧ qs.map Hm.p = (ps.take 9).map (fun h => cutP h.p) ∧ Below w.heap.size w w' ∧ Pa.Own w' w.heap.size v (qs.map Hm.o) ∧ ∀ h ∈ qs, Own1 w' w.heap.size h
theorem wpList_one {ops : Array Oper} {rest : List Oper} {o : Oper} {a : Act} {w : World} {Q : Exit → Act → World → Prop} (hg : o.guard = none) (x : Operand) (ho : o.op = .buildSlice 22 1 #[(0, x)]) (p : Pa.O) (hx : a.eval x = .agg p.arr)
    (h : wpList Try.prog ops Q rest (a.put o.dst (.slice (some ⟨w.heap.size, 0, none⟩) 1 1)) (w.alloc (.cells p.arr 39))) : wpList Try.prog ops Q (o :: rest) a w := by
  obtain ⟨i, hi, hz, hs, _⟩ := Pa.info_parts Pa.info39
  refine wpList_buildSlice hg 22 39 1 _ ho p.arr i _ Try.underlying22 hi hz (by rw [hs]; decide) (by rw [hs]; decide) ?_ h
  have e1 : (#[(0, x)].map fun (i, x) => (i, a.eval x)).toList = [(0, .agg p.arr)] := by simp [hx]
  rw [e1, fill_step _ _ 0 (.agg p.arr) _ 0 5 (by simp [hs]) (by rfl) (by simp [hs])]
  unfold Instr.fill
  congr 1
  show (⟨splice _ 0 p.arr.toList⟩ : Array Value) = p.arr
  unfold splice
  simp [Pa.O.arr, hs]
set_option maxHeartbeats 8000000 in
theorem few_any {w : World} {v : Value} {ps : List Hm} (hh : Heldw w v ps) (hn : ps.length ≤ 140737488355328) (hrl : ∀ h ∈ ps, h.p.rs.length ≤ 140737488355328 ∧ h.p.ws.length ≤ 140737488355328) :
    Calls Try.prog 10 #[v] w fun e w' => Fewed w ps e w' := by
  have hz39 := Pa.zero39
  obtain ⟨oa, cap, rfl, hcs⟩ := Pa.Olds.hold hh.row
  have HH : Hid (Heldw w (.slice oa (ps.map Hm.o).length cap) ps) := hh
  have HCS : Hid (∀ i, i < (ps.map Hm.o).length → ∃ (a : Addr) (x0 : Int) (x1 : Int) (x2 : Bool) (x3 : Sl) (x4 : Sl), oa = some a ∧ (ps.map Hm.o)[i]? = some ⟨x0, x1, x2, x3, x4⟩ ∧ ∀ j u, ([.int .u32 x0, .int .u32 x1, .bool x2, .slice x3.a x3.n x3.c, .slice x4.a x4.n x4.c] : List Value)[j]? = some u → w.cell? ((a.add (i * 5)).add j) = some u) := hcs
  have HRL : Hid (∀ h ∈ ps, h.p.rs.length ≤ 140737488355328 ∧ h.p.ws.length ≤ 140737488355328) := hrl
  have HFO : Hid (∀ v' qs w', Helds w' v' qs → qs.map Hm.p = (ps.take 9).map (fun h => cutP h.p) → Below w.heap.size w w' → Pa.Own w' w.heap.size v' (qs.map Hm.o) → (∀ h ∈ qs, Own1 w' w.heap.size h) → Fewed w ps (.returned v') w') := fun v' qs w' h1 h2 h3 h4 h5 => ⟨v', qs, rfl, h1, h2, h3, h4, h5⟩
  generalize Fewed w ps = PP at HFO ⊢
  clear hh hcs hrl
  obtain ⟨n, HN⟩ : ∃ n, Hid ((ps.map Hm.o).length = n) := ⟨_, rfl⟩
  have HN2 : Hid (ps.length = n) := by show _ = _; rw [← HN.out, List.length_map]
  rw [HN.out] at HCS ⊢
  have hnn : n ≤ 140737488355328 := by rw [← HN2.out]; exact hn
  clear hn
  have f0 : FewS w w.heap.size (.slice none 0 0) ps [] 0 := ⟨⟨rfl, Or.inl ⟨rfl, rfl⟩⟩, (fun h hm => by simp at hm), by simp⟩
  have b0 : Below w.heap.size w w := Below.refl _ _
  obtain ⟨B, HB⟩ : ∃ B, Hid (w.heap.size = B) := ⟨_, rfl⟩
  rw [HB.out] at f0
  go_enter Try.func10, Try.ntmps10
  go_upto_region 3 with fail
  go_loopw [3, 4] (fun p q wr => ∃ (v' : Value) (k : Nat) (qs : List Hm), v' = p ∧ q = .int .i64 (k : Int) ∧ k ≤ 9 ∧ k ≤ n ∧ FewS wr B v' ps qs k ∧ Below w.heap.size w wr) (fun p q _ => 10 - (intOf q).toNat)
  case atStart => exact ⟨_, 0, [], rfl, rfl, Nat.zero_le _, Nat.zero_le _, f0, b0⟩
  case round =>
    clear f0 b0
    obtain ⟨v', k, qs, rfl, rfl, hk9, hkn, hf, Bw⟩ := hrel
    by_cases hlt : k < n
    · have hlt' : (k : Int) < (n : Int) := by omega
      by_cases hk : k < 9
      · have hk' : (k : Int) < 9 := by omega
        have hd1 : decide ((k : Int) < (n : Int)) = true := decide_eq_true hlt'
        have k3 : (0 : Int) ≤ (k : Int) := by omega
        obtain ⟨a, h, rfl, he, hcell⟩ := HH.out.hold HN.out k hlt
        have hmem : h ∈ ps := List.mem_of_getElem? he
        have h1 := HH.out.each h hmem
        have hrl := HRL.out h hmem
        have hcaps := HH.out.caps h hmem
        obtain ⟨P, ⟨ra, rn, rc⟩, ⟨wa, wn, wc⟩⟩ := h
        have HE : Hid (ps[k]? = some ⟨P, ⟨ra, rn, rc⟩, ⟨wa, wn, wc⟩⟩) := he
        have hcw : ∀ q x, (Pa.O.cells ⟨P.st, P.co, P.dn, ⟨ra, rn, rc⟩, ⟨wa, wn, wc⟩⟩)[q]? = some x → wr.cell? ((a.add (k * 5)).add q) = some x := fun q x hq => cell_keep (hcell q x hq) Bw
        have H1 : Hid (Held1 w ⟨P, ⟨ra, rn, rc⟩, ⟨wa, wn, wc⟩⟩) := h1
        have hrn : rn = P.rs.length := h1.rn
        have hwn : wn = P.ws.length := h1.wn
        have hrn9 : rn ≤ 140737488355328 := by rw [hrn]; exact hrl.1
        have hwn9 : wn ≤ 140737488355328 := by rw [hwn]; exact hrl.2
        have HRN : Hid (rn = P.rs.length ∧ wn = P.ws.length) := ⟨hrn, hwn⟩
        have tl : Hid (1 = 1) := rfl
        have q1 : Row (wr.alloc (.cells Pa.O.zero.arr 39)) wr.heap.size Pa.O.zero.arr 39 := Row.new _ _ _
        obtain ⟨k1, k2⟩ := copied wr (⟨P.st, P.co, P.dn, ⟨ra, rn, rc⟩, ⟨wa, wn, wc⟩⟩ : Pa.O)
        have hk2 : decide ((k : Int) < 9) = true := decide_eq_true hk'
        clear hcell h1 hrl hmem he hrn hwn
        go_upto_region 6 with (first
          | (have hh := tl; clear hh tl; refine wpList_load_any rfl 39 (.tmp 18) rfl (a.add (k * 5)) rfl (Pa.O.cells ⟨P.st, P.co, P.dn, ⟨ra, rn, rc⟩, ⟨wa, wn, wc⟩⟩) _ hcw Try.underlying39 rfl Pa.size39 ?_)
          | (refine store_cells rfl 39 (.tmp 5) (.tmp 19) rfl wr.heap.size (Pa.O.arr ⟨P.st, P.co, P.dn, ⟨ra, rn, rc⟩, ⟨wa, wn, wc⟩⟩) rfl rfl 39 _ q1 5 Pa.size39 rfl rfl (Pa.O.arr_one _) ?_))
        clear q1 hcw
        generalize (wr.alloc (.cells Pa.O.zero.arr 39)).setRow wr.heap.size (Pa.O.arr ⟨P.st, P.co, P.dn, ⟨ra, rn, rc⟩, ⟨wa, wn, wc⟩⟩) = w5 at k1 k2 ⊢
        have k1 : Row w5 wr.heap.size #[.int .u32 P.st, .int .u32 P.co, .bool P.dn, .slice ra rn rc, .slice wa wn wc] 39 := k1
        have Bw5 := below_trans Bw k2
        have hf5 := hf.below k2
        have hvT : ∀ g, v'.ownBlock = some g → g ≠ wr.heap.size := fun g hg => by have := (World.ownsRow.lt hf.own g hg).2; omega
        have hBT : B ≤ wr.heap.size := by rw [← HB.out]; exact Bw.size
        have HVT : Hid (∀ g, v'.ownBlock = some g → g ≠ wr.heap.size) := hvT
        generalize wr.heap.size = T at k1 HVT hBT ⊢
        clear k2 hf Bw hvT
        have b6 : Below w5.heap.size w5 (w5.alloc (.cells #[] 46)) := (Below.refl _ _).alloc (Nat.le_refl _) _
        have k6 := k1.below b6 k1.lt
        have f3 : (w5.alloc (.cells #[] 46)).cell? ⟨T, 3, none⟩ = some (.slice ra rn rc) := row_at k6 3 _ rfl
        have hcaps : rn ≤ rc ∧ wn ≤ wc := hcaps
        obtain ⟨k6, hk6⟩ : ∃ k6 : Nat, min (rn : Int) 6 = (k6 : Int) := ⟨min rn 6, by omega⟩
        have hk6c : (k6 : Int) ≤ (rc : Int) := by have := hcaps.1; omega
        have hk60 : (0 : Int) ≤ (k6 : Int) := by omega
        have hto : (P.rs.map sO).take k6 = (P.rs.take 6).map sO := by
          rw [← List.map_take]
          congr 1
          have := HRN.out.1
          by_cases q : rn ≤ 6
          · rw [List.take_of_length_le (by omega), List.take_of_length_le (by omega)]
          · rw [show k6 = 6 by omega]
        have hol : Sn.Olds w5 (.slice ra k6 rc) ((P.rs.take 6).map sO) := by
          rw [← hto]
          exact (Sn.Olds.cut (os := P.rs.map sO) H1.out.rs k6 (by rw [List.length_map]; have := HRN.out.1; omega)).keep Bw5
        have HAP : Hid (∀ ty, ∃ v' w', (Builtin.append_ #[36, 36] ty #[.slice (some ⟨w5.heap.size, 0, none⟩) 0 0, .slice ra k6 rc]).run Try.prog (w5.alloc (.cells #[] 46)) = .ok v' w' ∧ Sn.Own w' w5.heap.size v' ((P.rs.take 6).map sO) ∧ Below w5.heap.size w5 w') := fun ty => Sn.run_copy w5 ty _ _ hol (by rw [List.length_map, List.length_take]; omega)
        have HBT : Hid (B ≤ T ∧ T < w5.heap.size) := ⟨hBT, k1.lt⟩
        clear hol hto
        go_upto_region 7 with (
          refine Sn.wpList_copy rfl (.tmp 20) (.tmp 27) 36 rfl (.slice (some ⟨w5.heap.size, 0, none⟩) 0 0) (.slice ra k6 rc) rfl rfl HAP.out ?_
          clear f3 b6 HAP hk6 hk6c hk60
          rintro v7 w7 ⟨hn7, hb7⟩
          have k7 := k1.below hb7 k1.lt
          have Bw7 := below_trans Bw5 hb7
          have hf7 := hf5.below hb7
          obtain ⟨oa7, cap7, hv7⟩ := Sn.Own.form hn7
          obtain ⟨len7, HL7⟩ : ∃ len7, Hid (((P.rs.take 6).map sO).length = len7) := ⟨_, rfl⟩
          rw [HL7.out] at hv7
          subst hv7
          have hn7 : Sn.Own w7 B (.slice oa7 len7 cap7) ((P.rs.take 6).map sO) := hn7.base (by have := HBT.out; omega)
          have fz7 : w7.frozen? ⟨T, 3, none⟩ = false := row_frozen k7 3
          have c73 : w7.cell? ⟨T, 3, none⟩ = some (.slice ra rn rc) := row_at k7 3 _ rfl
          have o8 : Off (· = T) w7 (w7.setCell ⟨T, 3, none⟩ (.slice oa7 len7 cap7)) := Off.of_setCell _ _ _ rfl
          have k8 := row_set k7 3 (.slice oa7 len7 cap7)
          have HF8 : Hid (FewS (w7.setCell ⟨T, 3, none⟩ (.slice oa7 len7 cap7)) B v' ps qs k) := hf7.offT o8 k7 HVT.out
          have HN8 : Hid (Sn.Own (w7.setCell ⟨T, 3, none⟩ (.slice oa7 len7 cap7)) B (.slice oa7 len7 cap7) ((P.rs.take 6).map sO)) := hn7.off o8 (fun g hg e => by obtain ⟨cs, hc⟩ := hn7.cellsOf g hg; have := k7; unfold Row at this; rw [e, this] at hc; cases hc)
          have HB8 : Hid (Below w.heap.size w (w7.setCell ⟨T, 3, none⟩ (.slice oa7 len7 cap7))) := below_off Bw7 o8 (fun q e => by rw [e, HB.out]; exact HBT.out.1)
          clear hf7 hn7 hb7 Bw7 o8)
        have k8 : Row (w7.setCell ⟨T, 3, none⟩ (.slice oa7 len7 cap7)) T #[.int .u32 P.st, .int .u32 P.co, .bool P.dn, .slice oa7 len7 cap7, .slice wa wn wc] 39 := k8
        generalize w7.setCell ⟨T, 3, none⟩ (.slice oa7 len7 cap7) = w8 at k8 HF8 HN8 HB8 ⊢
        clear fz7 c73 k7 hf5 Bw5 k1
        have b9 : Below w8.heap.size w8 (w8.alloc (.cells #[] 44)) := (Below.refl _ _).alloc (Nat.le_refl _) _
        have k9 := k8.below b9 k8.lt
        have f4 : (w8.alloc (.cells #[] 44)).cell? ⟨T, 4, none⟩ = some (.slice wa wn wc) := row_at k9 4 _ rfl
        obtain ⟨k6, hk6⟩ : ∃ k6 : Nat, min (wn : Int) 6 = (k6 : Int) := ⟨min wn 6, by omega⟩
        have hk6c : (k6 : Int) ≤ (wc : Int) := by have := hcaps.2; omega
        have hk60 : (0 : Int) ≤ (k6 : Int) := by omega
        have hto : (P.ws.map gO).take k6 = (P.ws.take 6).map gO := by
          rw [← List.map_take]
          congr 1
          have := HRN.out.2
          by_cases q : wn ≤ 6
          · rw [List.take_of_length_le (by omega), List.take_of_length_le (by omega)]
          · rw [show k6 = 6 by omega]
        have hol : Pg.Olds w8 (.slice wa k6 wc) ((P.ws.take 6).map gO) := by
          rw [← hto]
          exact (Pg.Olds.cut (os := P.ws.map gO) H1.out.ws k6 (by rw [List.length_map]; have := HRN.out.2; omega)).keep HB8.out
        have HAP : Hid (∀ ty, ∃ v' w', (Builtin.append_ #[37, 37] ty #[.slice (some ⟨w8.heap.size, 0, none⟩) 0 0, .slice wa k6 wc]).run Try.prog (w8.alloc (.cells #[] 44)) = .ok v' w' ∧ Pg.Own w' w8.heap.size v' ((P.ws.take 6).map gO) ∧ Below w8.heap.size w8 w') := fun ty => Pg.run_copy w8 ty _ _ hol (by rw [List.length_map, List.length_take]; omega)
        have HBT : Hid (B ≤ T ∧ T < w8.heap.size) := ⟨HBT.out.1, k8.lt⟩
        clear hol hto
        go_upto_region 8 with (
          refine Pg.wpList_copy rfl (.tmp 30) (.tmp 37) 37 rfl (.slice (some ⟨w8.heap.size, 0, none⟩) 0 0) (.slice wa k6 wc) rfl rfl HAP.out ?_
          clear f4 b9 HAP hk6 hk6c hk60
          rintro v9 w9 ⟨hn9, hb9⟩
          have k10 := k8.below hb9 k8.lt
          have Bw9 := below_trans HB8.out hb9
          have hf9 := HF8.out.below hb9
          have hn8 := HN8.out.keep hb9
          obtain ⟨oa9, cap9, hv9⟩ := Pg.Own.form hn9
          obtain ⟨len9, HL9⟩ : ∃ len9, Hid (((P.ws.take 6).map gO).length = len9) := ⟨_, rfl⟩
          rw [HL9.out] at hv9
          subst hv9
          have hn9 : Pg.Own w9 B (.slice oa9 len9 cap9) ((P.ws.take 6).map gO) := hn9.base (by have := HBT.out; omega)
          have fz9 : w9.frozen? ⟨T, 4, none⟩ = false := row_frozen k10 4
          have c94 : w9.cell? ⟨T, 4, none⟩ = some (.slice wa wn wc) := row_at k10 4 _ rfl
          have o10 : Off (· = T) w9 (w9.setCell ⟨T, 4, none⟩ (.slice oa9 len9 cap9)) := Off.of_setCell _ _ _ rfl
          have k11 := row_set k10 4 (.slice oa9 len9 cap9)
          have HF10 : Hid (FewS (w9.setCell ⟨T, 4, none⟩ (.slice oa9 len9 cap9)) B v' ps qs k) := hf9.offT o10 k10 HVT.out
          have HN10 : Hid (Sn.Own (w9.setCell ⟨T, 4, none⟩ (.slice oa9 len9 cap9)) B (.slice oa7 len7 cap7) ((P.rs.take 6).map sO)) := hn8.off o10 (fun g hg e => by obtain ⟨cs, hc⟩ := hn8.cellsOf g hg; have := k10; unfold Row at this; rw [e, this] at hc; cases hc)
          have HM10 : Hid (Pg.Own (w9.setCell ⟨T, 4, none⟩ (.slice oa9 len9 cap9)) B (.slice oa9 len9 cap9) ((P.ws.take 6).map gO)) := hn9.off o10 (fun g hg e => by obtain ⟨cs, hc⟩ := hn9.cellsOf g hg; have := k10; unfold Row at this; rw [e, this] at hc; cases hc)
          have HB10 : Hid (Below w.heap.size w (w9.setCell ⟨T, 4, none⟩ (.slice oa9 len9 cap9))) := below_off Bw9 o10 (fun q e => by rw [e, HB.out]; exact HBT.out.1)
          clear hf9 hn9 hn8 hb9 Bw9 o10)
        have k11 : Row (w9.setCell ⟨T, 4, none⟩ (.slice oa9 len9 cap9)) T (Pa.O.arr ⟨P.st, P.co, P.dn, ⟨oa7, len7, cap7⟩, ⟨oa9, len9, cap9⟩⟩) 39 := k11
        generalize w9.setCell ⟨T, 4, none⟩ (.slice oa9 len9 cap9) = w10 at k11 HF10 HN10 HM10 HB10 ⊢
        clear fz9 c94 k10 k8 k9 HF8 HN8 HB8
        have hcT := Pa.O.row_cells k11
        have rZ : Row (w10.alloc (.cells (Pa.O.arr ⟨P.st, P.co, P.dn, ⟨oa7, len7, cap7⟩, ⟨oa9, len9, cap9⟩⟩) 39)) w10.heap.size (Pa.O.arr ⟨P.st, P.co, P.dn, ⟨oa7, len7, cap7⟩, ⟨oa9, len9, cap9⟩⟩) 39 := Row.new _ _ _
        have b12 : Below w10.heap.size w10 (w10.alloc (.cells (Pa.O.arr ⟨P.st, P.co, P.dn, ⟨oa7, len7, cap7⟩, ⟨oa9, len9, cap9⟩⟩) 39)) := (Below.refl _ _).alloc (Nat.le_refl _) _
        have HF12 : Hid (FewS (w10.alloc (.cells (Pa.O.arr ⟨P.st, P.co, P.dn, ⟨oa7, len7, cap7⟩, ⟨oa9, len9, cap9⟩⟩) 39)) B v' ps qs k) := HF10.out.below b12
        have HO12 : Hid (Own1 (w10.alloc (.cells (Pa.O.arr ⟨P.st, P.co, P.dn, ⟨oa7, len7, cap7⟩, ⟨oa9, len9, cap9⟩⟩) 39)) B ⟨cutP P, ⟨oa7, len7, cap7⟩, ⟨oa9, len9, cap9⟩⟩) := ⟨HN10.out.keep b12, HM10.out.keep b12⟩
        have HB12 : Hid (Below w.heap.size w (w10.alloc (.cells (Pa.O.arr ⟨P.st, P.co, P.dn, ⟨oa7, len7, cap7⟩, ⟨oa9, len9, cap9⟩⟩) 39))) := below_trans HB10.out b12
        have hq9 : qs.length ≤ 9 := by
          have := congrArg List.length HF10.out.same
          simp at this
          omega
        have HAP : Hid (∀ ty, ∃ v'' w'', (Builtin.append_ #[22, 22] ty #[v', .slice (some ⟨w10.heap.size, 0, none⟩) 1 1]).run Try.prog (w10.alloc (.cells (Pa.O.arr ⟨P.st, P.co, P.dn, ⟨oa7, len7, cap7⟩, ⟨oa9, len9, cap9⟩⟩) 39)) = .ok v'' w'' ∧ Pa.Own w'' B v'' (qs.map Hm.o ++ [⟨P.st, P.co, P.dn, ⟨oa7, len7, cap7⟩, ⟨oa9, len9, cap9⟩⟩]) ∧ (w10.alloc (.cells (Pa.O.arr ⟨P.st, P.co, P.dn, ⟨oa7, len7, cap7⟩, ⟨oa9, len9, cap9⟩⟩) 39)).grownBy w'' v'.ownBlock) := fun ty => HF12.out.own.snocP ty _ _ rZ (by rw [← HB.out]; exact HB12.out.size) (by rw [List.length_map]; omega)
        clear rZ b12 k11 HF10 HN10 HM10 HB10
        go_wp2_with (first
          | (refine wpList_load_any rfl 39 (.tmp 5) rfl ⟨T, 0, none⟩ rfl (Pa.O.cells ⟨P.st, P.co, P.dn, ⟨oa7, len7, cap7⟩, ⟨oa9, len9, cap9⟩⟩) _ hcT Try.underlying39 rfl Pa.size39 ?_; clear hcT)
          | (refine wpList_one rfl (.tmp 41) rfl ⟨P.st, P.co, P.dn, ⟨oa7, len7, cap7⟩, ⟨oa9, len9, cap9⟩⟩ rfl ?_)
          | (refine Pa.wpList_copy rfl (.tmp 40) (.tmp 42) 22 rfl v' (.slice (some ⟨w10.heap.size, 0, none⟩) 1 1) rfl rfl HAP.out ?_
             clear HAP
             generalize w10.alloc (.cells (Pa.O.arr ⟨P.st, P.co, P.dn, ⟨oa7, len7, cap7⟩, ⟨oa9, len9, cap9⟩⟩) 39) = w12 at HF12 HO12 HB12
             rintro v13 w13 ⟨hn13, hg13⟩
             have Ou : Off (fun g => v'.ownBlock = some g) w12 w13 := Off.of_grown hg13 (fun g e => e)
             have hcl := HF12.out.own.cellsOf
             have HF13 : Hid (FewS w13 B v13 ps (qs ++ [⟨cutP P, ⟨oa7, len7, cap7⟩, ⟨oa9, len9, cap9⟩⟩]) (k + 1)) := ⟨by rw [List.map_append]; exact hn13, fun x hx => by
               rcases List.mem_append.1 hx with hx | hx
               · exact (HF12.out.each x hx).apart Ou hcl
               · simp at hx; subst hx; exact HO12.out.apart Ou hcl, by
               rw [List.map_append, HF12.out.same]
               have h1 : ps.take (k + 1) = ps.take k ++ [⟨P, ⟨ra, rn, rc⟩, ⟨wa, wn, wc⟩⟩] := by
                 obtain ⟨q1, q2⟩ := List.getElem?_eq_some_iff.1 HE.out
                 rw [List.take_succ_eq_append_getElem q1, q2]
               rw [h1, List.map_append]; rfl⟩
             have HB13 : Hid (Below w.heap.size w w13) := below_off HB12.out Ou (fun g hg => by rw [HB.out]; exact (World.ownsRow.lt HF12.out.own g hg).1)
             clear hn13 hg13 Ou hcl HF12 HO12 HB12))
        go_roundw
        case rel => exact ⟨v13, k + 1, _, rfl, by go_num, by omega, by omega, HF13.out, HB13.out⟩
        case measure => simp [intOf]; omega
      · have hk' : ¬ (k : Int) < 9 := by omega
        have hd1 : decide ((k : Int) < (n : Int)) = true := decide_eq_true hlt'
        have hd2 : decide ((k : Int) < 9) = false := decide_eq_false hk'
        obtain rfl : k = 9 := by omega
        have hfin := HFO.out v' qs wr ⟨hf.own.olds, fun h hm => (hf.each h hm).held, fun h hm => by
          have : h.p ∈ (ps.take 9).map fun h => cutP h.p := by rw [← hf.same]; exact List.mem_map_of_mem hm
          obtain ⟨x, hx, e⟩ := List.mem_map.1 this
          rw [← e]; exact cutP.fit (HH.out.num x (List.mem_of_mem_take hx))⟩ hf.same Bw (by rw [HB.out]; exact hf.own) (by rw [HB.out]; exact hf.each)
        clear hf Bw
        go_wp2
        exact hfin
    · have hlt' : ¬ (k : Int) < (n : Int) := by omega
      have hd1 : decide ((k : Int) < (n : Int)) = false := decide_eq_false hlt'
      have hfin := HFO.out v' qs wr ⟨hf.own.olds, fun h hm => (hf.each h hm).held, fun h hm => by
          have : h.p ∈ (ps.take k).map fun h => cutP h.p := by rw [← hf.same]; exact List.mem_map_of_mem hm
          obtain ⟨x, hx, e⟩ := List.mem_map.1 this
          rw [← e]; exact cutP.fit (HH.out.num x (List.mem_of_mem_take hx))⟩ (by rw [hf.same, List.take_of_length_le (by rw [HN2.out]; omega), List.take_of_length_le (by rw [HN2.out]; omega)]) Bw (by rw [HB.out]; exact hf.own) (by rw [HB.out]; exact hf.each)
      clear hf Bw
      go_wp2
      exact hfin
end Go.Proofs.Ytdlllnkcjfpajaa
