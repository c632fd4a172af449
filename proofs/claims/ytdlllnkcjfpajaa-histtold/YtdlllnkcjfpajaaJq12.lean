/-
  Plain facts: a map of lists of numbers that each lie in a row of their own. Proved here: followers. Proved here: what a walk along a history keeps: who was come to, and the way; one visit (reach's closure).
-/
import Derived.Test.YtdlllnkcjfpajaaJq00
import Derived.Test.YtdlllnkcjfpajaaJq11
import Derived.Laws.MakeOwn
namespace Go.Proofs.Ytdlllnkcjfpajaa
open Go.ChangeShapes Go.WideShapes Go.ChangeAt Go.RowKit
set_option linter.unusedVariables false
set_option linter.unusedSimpArgs false
set_option maxRecDepth 20000
namespace GI
def uO (x : Int) : Ii.O := ⟨x⟩
def Nums (w : World) (base : Nat) (v : Value) (xs : List Int) : Prop := Ii.Own w base v (xs.map uO)
theorem flat_uO (xs : List Int) : Ii.flat (xs.map uO) = xs.map (Value.int .i64) := by
  induction xs with
  | nil => rfl
  | cons x r ih => show _ :: Ii.flat (r.map uO) = _; rw [ih]; rfl
theorem Nums.nil (w : World) (base : Nat) : Nums w base (.slice none 0 0) [] := World.ownsRow_nil _ _ _ _
theorem Nums.kept {w w' : World} {base : Nat} {v : Value} {xs : List Int} {row : Option Nat} (h : Nums w base v xs) (hg : w.grownBy w' row) (hne : v.ownBlock = none ∨ v.ownBlock ≠ row) : Nums w' base v xs := World.ownsRow.kept h hg hne
theorem Nums.off {F : Nat → Prop} {w w' : World} {base : Nat} {v : Value} {xs : List Int} (h : Nums w base v xs) (ho : Off F w w') (hF : ∀ b, v.ownBlock = some b → ¬ F b) : Nums w' base v xs := by
  have hl := World.ownsRow.lt h
  obtain ⟨h1, h2⟩ := h
  refine ⟨h1, ?_⟩
  rcases h2 with h2 | ⟨g, cap, cur, rfl, hb', hc, rest⟩
  · exact Or.inl h2
  · have := hl g (by simp [Value.ownBlock])
    exact Or.inr ⟨g, cap, cur, rfl, hb', (ho.block g this.2 (hF g (by simp [Value.ownBlock]))).trans hc, rest⟩
theorem Nums.lt {w : World} {base : Nat} {v : Value} {xs : List Int} (h : Nums w base v xs) : ∀ g, v.ownBlock = some g → base ≤ g ∧ g < w.heap.size := World.ownsRow.lt h
theorem Nums.cells {w : World} {base : Nat} {v : Value} {xs : List Int} (h : Nums w base v xs) : ∀ g, v.ownBlock = some g → ∃ cs, w.heap[g]? = some (.cells cs 3 (0, 0)) := fun g hg => by
  rcases h.2 with ⟨rfl, _⟩ | ⟨g', cap, cur, rfl, hb', hc, rest⟩
  · cases hg
  · simp [Value.ownBlock] at hg; subst hg; exact ⟨cur, hc⟩
theorem Nums.snoc {w : World} {base : Nat} {v : Value} {xs : List Int} (h : Nums w base v xs) (ty : TypeId) (X : Nat) (x : Int) (hX : Row w X #[.int .i64 x] 3) (hb : base ≤ w.heap.size) (hn : xs.length ≤ 1000000) :
    ∃ v' w', (Builtin.append_ #[103, 103] ty #[v, .slice (some ⟨X, 0, none⟩) 1 1]).run Try.prog w = .ok v' w' ∧ Nums w' base v' (xs ++ [x]) ∧ w.grownBy w' v.ownBlock ∧ (v'.ownBlock = v.ownBlock ∨ v'.ownBlock = some w.heap.size) := by
  obtain ⟨i, hi, hz, hs, hby⟩ := Ii.info_parts Ii.info3
  obtain ⟨v', w', hr, h2, h3, h4, h5⟩ := run_append_own_at (P := Try.prog) w base 103 ty 3 i _ 1 8 Try.underlying103 hi hz hs hby rfl (by decide) v (xs.map uO).length (Ii.flat (xs.map uO)) h ⟨X, 0, none⟩ 1 1 [.int .i64 x] rfl (fun j u hj => by rw [Addr.add_mid, Nat.zero_add, cell_of_row w X j _ _ _ hX, ← hj]; show [Value.int .i64 x].toArray[j]? = _; rw [List.getElem?_toArray]) (by simp [Value.oneCell']) (by unfold maxLen; simp; omega) (by simp; omega) hb
  refine ⟨v', w', hr, ?_, h3, h5⟩
  unfold Nums Ii.Own
  rw [List.map_append, Ii.flat_append, List.length_append]
  exact h2
def GAt (w : World) (base m n : Nat) (F : Int → Option Value) (G : Int → List Int) : Prop :=
  KMap E3 w m n F ∧ m < base ∧ (∀ x, E3.ok x → (F x = none → G x = []) ∧ ∀ u, F x = some u → Nums w base u (G x) ∧ G x ≠ []) ∧
    ∀ x y u v, E3.ok x → E3.ok y → x ≠ y → F x = some u → F y = some v → u.ownBlock = none ∨ u.ownBlock ≠ v.ownBlock
theorem GAt.made (w : World) : GAt (w.alloc (.map #[] 0)) (w.heap.size + 1) w.heap.size 0 (fun _ => none) (fun _ => []) :=
  ⟨KMap.made E3 w, Nat.lt_succ_self _, fun x _ => ⟨fun _ => rfl, fun u h => by cases h⟩, fun x y u v _ _ _ h => by cases h⟩
theorem GAt.off {B : Nat → Prop} {w w' : World} {base m n : Nat} {F : Int → Option Value} {G : Int → List Int} (h : GAt w base m n F G) (ho : Off B w w') (hm : ¬ B m) (hB : ∀ j, base ≤ j → j < w.heap.size → ¬ B j) : GAt w' base m n F G :=
  ⟨h.1.off ho hm, h.2.1, fun x hx => ⟨(h.2.2.1 x hx).1, fun u hu => by
    have hn := ((h.2.2.1 x hx).2 u hu).1
    exact ⟨hn.off ho (fun b hb => hB b (hn.lt b hb).1 (hn.lt b hb).2), ((h.2.2.1 x hx).2 u hu).2⟩⟩, h.2.2.2⟩
theorem GAt.below {w w' : World} {base m n : Nat} {F : Int → Option Value} {G : Int → List Int} (h : GAt w base m n F G) (hb : Below w.heap.size w w') : GAt w' base m n F G :=
  h.off (B := fun _ => False) (Off.of_below hb) (fun q => q) (fun _ _ _ q => q)
theorem GAt.apart {B : Nat → Prop} {w w' : World} {base m n : Nat} {F : Int → Option Value} {G : Int → List Int} (h : GAt w base m n F G) (ho : Off B w w') (hm : ¬ B m) (hB : ∀ j cs t x, B j → w.heap[j]? = some (.cells cs t x) → False) : GAt w' base m n F G :=
  ⟨h.1.off ho hm, h.2.1, fun x hx => ⟨(h.2.2.1 x hx).1, fun u hu => by
    have hn := ((h.2.2.1 x hx).2 u hu).1
    exact ⟨hn.off ho (fun b hb q => by obtain ⟨cs, hc⟩ := hn.cells b hb; exact hB _ _ _ _ q hc), ((h.2.2.1 x hx).2 u hu).2⟩⟩, h.2.2.2⟩
def gput (G : Int → List Int) (x : Int) (zs : List Int) : Int → List Int := fun y => if y = x then zs else G y
def Back (w : World) (base m n : Nat) (F : Int → Option Value) (G : Int → List Int) (x : Int) (u : Value) : Prop :=
  ∀ (w1 : World) (u' : Value) (zs : List Int), w.grownBy w1 u.ownBlock → Nums w1 base u' zs → zs ≠ [] → (u'.ownBlock = u.ownBlock ∨ ∃ g, u'.ownBlock = some g ∧ w.heap.size ≤ g) →
    ∃ w2 F2, (Instr.mapUpdate 109 (.map (some m)) (E3.v x) u').run Try.prog w1 = .ok () w2 ∧ GAt w2 base m (n + 1) F2 (gput G x zs) ∧ w1.grownBy w2 (some m)
theorem GAt.look {w : World} {base m n : Nat} {F : Int → Option Value} {G : Int → List Int} (h : GAt w base m n F G) (hn : n < maxLen) {x : Int} (hx : E3.ok x) :
    ∃ u, (Instr.lookup 109 (.map (some m)) (E3.v x) false).run Try.prog w = .ok u w ∧ Nums w base u (G x) ∧ Back w base m n F G x u := by
  obtain ⟨hk, hmb, hG, hap⟩ := h
  have hl := hk.look Try.underlying109 (zero103 w) hx
  have core : ∀ u, Nums w base u (G x) → (F x = some u ∨ (F x = none ∧ u.ownBlock = none)) → Back w base m n F G x u := by
    intro u hu hF w1 u' zs hg hu' hzne hloc
    have hub : ∀ b, u.ownBlock = some b → base ≤ b ∧ b < w.heap.size := hu.lt
    have hmr : some m ≠ u.ownBlock := fun q => by have := (hub m q.symm).1; omega
    have hk1 : KMap E3 w1 m n F := hk.kept (hg.block m hk.lt hmr)
    obtain ⟨w2, hrun, hm2, hg2, hs2⟩ := hk1.store Try.underlying109 hn hx u'
    have apart : ∀ y v, E3.ok y → y ≠ x → F y = some v → v.ownBlock = none ∨ v.ownBlock ≠ u.ownBlock := by
      intro y v hy hne hFy
      rcases hF with hF | ⟨_, hF⟩
      · exact hap y x v u hy hx hne hFy hF
      · cases hv : v.ownBlock with
        | none => exact Or.inl rfl
        | some b => right; rw [hF]; exact fun q => by cases q
    refine ⟨w2, kput F x u', hrun, ⟨hm2, hmb, fun y hy => ?_, fun y z a b hy hz hne ha hb => ?_⟩, hg2⟩
    · unfold kput gput
      by_cases e : y = x
      · rw [if_pos e, if_pos e]
        refine ⟨fun q => (by cases q), fun v q => ?_⟩
        cases q
        exact ⟨hu'.kept hg2 (by
          cases hq : u'.ownBlock with
          | none => exact Or.inl rfl
          | some b => right; intro q; cases q; have := (hu'.lt m hq).1; omega), hzne⟩
      · rw [if_neg e, if_neg e]
        refine ⟨(hG y hy).1, fun v q => ?_⟩
        have h0 := ((hG y hy).2 v q).1
        have h1 := h0.kept hg (apart y v hy e q)
        exact ⟨h1.kept hg2 (by
          cases hq : v.ownBlock with
          | none => exact Or.inl rfl
          | some b => right; intro q; cases q; have := (h0.lt m hq).1; omega), ((hG y hy).2 v q).2⟩
    · unfold kput at ha hb
      have key : ∀ y v, E3.ok y → y ≠ x → F y = some v → (v.ownBlock = none ∨ v.ownBlock ≠ u'.ownBlock) ∧ (u'.ownBlock = none ∨ u'.ownBlock ≠ v.ownBlock) := by
        intro y v hy hne hFy
        have h1 := apart y v hy hne hFy
        have h0 := ((hG y hy).2 v hFy).1.lt
        cases hv : v.ownBlock with
        | none =>
          refine ⟨Or.inl rfl, ?_⟩
          cases hu2 : u'.ownBlock with
          | none => exact Or.inl rfl
          | some b => right; intro q; cases q
        | some b =>
          have hb1 := h0 b hv
          rcases hloc with hl | ⟨g, hl, hg3⟩
          · rcases h1 with h1 | h1
            · rw [hv] at h1; cases h1
            · rw [hl, ← hv]; exact ⟨Or.inr h1, Or.inr (fun q => h1 q.symm)⟩
          · rw [hl]
            exact ⟨Or.inr (fun q => by cases q; omega), Or.inr (fun q => by cases q; omega)⟩
      by_cases e : y = x
      · rw [if_pos e] at ha
        cases ha
        have e2 : ¬ z = x := fun q => hne (by rw [e, q])
        rw [if_neg e2] at hb
        exact (key z b hz e2 hb).2
      · rw [if_neg e] at ha
        by_cases e2 : z = x
        · rw [if_pos e2] at hb
          cases hb
          exact (key y a hy e ha).1
        · rw [if_neg e2] at hb
          exact hap y z a b hy hz hne ha hb
  cases hF : F x with
  | none =>
    rw [hF] at hl
    have e0 := (hG x hx).1 hF
    have n0 : Nums w base (.slice none 0 0) (G x) := by rw [e0]; exact Nums.nil _ _
    exact ⟨.slice none 0 0, hl, n0, core _ n0 (Or.inr ⟨hF, rfl⟩)⟩
  | some u =>
    rw [hF] at hl
    have n0 := ((hG x hx).2 u hF).1
    exact ⟨u, hl, n0, core u n0 (Or.inl hF)⟩
end GI
end Go.Proofs.Ytdlllnkcjfpajaa
namespace Go.Proofs.Ytdlllnkcjfpajaa
open Go.ChangeShapes Go.WideShapes Go.ChangeAt Go.RowKit
set_option linter.unusedVariables false
set_option linter.unusedSimpArgs false
set_option maxRecDepth 20000
theorem info103 : (Try.prog.info? 103).map (fun i => (i.zero, i.size, i.bytes)) = some (some (.slice none 0 0), 1, 24) := by kernel_rfl
theorem made_one (v : Value) (h : v.cells = #[v]) (n : Nat) : madeCells v.cells (n * 1) = (List.replicate n v).toArray := by
  apply Array.ext_getElem?
  intro k
  unfold madeCells
  rw [h]
  by_cases hk : k < n
  · simp [hk, Nat.mod_one]
  · simp [hk]
structure FAt (w : World) (base fb : Nat) (us : List Value) (X : Nat → List Int) : Prop where
  row : Row w fb us.toArray 103
  lt : fb < base
  nums : ∀ a u, us[a]? = some u → GI.Nums w base u (X a)
  apart : ∀ (a b : Nat) (u v : Value), a ≠ b → us[a]? = some u → us[b]? = some v → u.ownBlock = none ∨ u.ownBlock ≠ v.ownBlock
theorem FAt.off {B : Nat → Prop} {w w' : World} {base fb : Nat} {us : List Value} {X : Nat → List Int} (h : FAt w base fb us X) (ho : Off B w w') (hB : ∀ j cs t x, B j → w.heap[j]? = some (.cells cs t x) → False) : FAt w' base fb us X where
  row := h.row.off ho (fun q => hB _ _ _ _ q h.row)
  lt := h.lt
  nums a u hu := (h.nums a u hu).off ho (fun b hb q => by obtain ⟨cs, hc⟩ := (h.nums a u hu).cells b hb; exact hB _ _ _ _ q hc)
  apart := h.apart
theorem FAt.below {w w' : World} {base fb : Nat} {us : List Value} {X : Nat → List Int} (h : FAt w base fb us X) (ho : Below w.heap.size w w') : FAt w' base fb us X :=
  h.off (B := fun _ => False) (Off.of_below ho) (fun _ _ _ _ q _ => q)
def xput (X : Nat → List Int) (a : Nat) (zs : List Int) : Nat → List Int := fun b => if b = a then zs else X b
theorem FAt.put {w w1 : World} {base fb : Nat} {us : List Value} {X : Nat → List Int} (h : FAt w base fb us X) {a : Nat} {u v' : Value} {zs : List Int} (ha : us[a]? = some u) (hg : w.grownBy w1 u.ownBlock) (hn : GI.Nums w1 base v' zs) (hl : v'.ownBlock = u.ownBlock ∨ v'.ownBlock = some w.heap.size) :
    Row w1 fb us.toArray 103 ∧ FAt (w1.setCell ⟨fb, a, none⟩ v') base fb (us.set a v') (xput X a zs) := by
  have hub := (h.nums a u ha).lt
  have hfu : u.ownBlock ≠ some fb := fun q => by have := (hub _ q).1; have := h.lt; omega
  have r1 : Row w1 fb us.toArray 103 := by
    have := h.row
    unfold Row at this ⊢
    rw [hg.block _ h.row.lt (fun q => hfu q.symm)]; exact this
  have o2 : Off (· = fb) w1 (w1.setCell ⟨fb, a, none⟩ v') := Off.of_setCell _ _ _ rfl
  have hge : ∀ (b : Nat) (v : Value), us[b]? = some v → ∀ k, v.ownBlock = some k → base ≤ k ∧ k < w.heap.size := fun b v hb k hk => (h.nums b v hb).lt k hk
  refine ⟨r1, ?_, h.lt, fun b v hb => ?_, fun b c v x hbc hb hc => ?_⟩
  · have := row_set r1 a v'
    rw [List.setIfInBounds_toArray] at this
    exact this
  · unfold xput
    by_cases e : b = a
    · subst e
      rw [if_pos rfl]
      have hlen := (List.getElem?_eq_some_iff.1 ha).1
      rw [List.getElem?_set_self hlen] at hb
      cases hb
      exact hn.off o2 (fun k hk e => by have := (hn.lt k hk).1; have := h.lt; omega)
    · rw [if_neg e]
      rw [List.getElem?_set_ne (fun q => e q.symm)] at hb
      have h0 := h.nums b v hb
      have h1 := h0.kept hg (h.apart b a v u e hb ha)
      exact h1.off o2 (fun k hk e => by have := (h0.lt k hk).1; have := h.lt; omega)
  · have key : ∀ (b : Nat) (v : Value), b ≠ a → us[b]? = some v → (v.ownBlock = none ∨ v.ownBlock ≠ v'.ownBlock) ∧ (v'.ownBlock = none ∨ v'.ownBlock ≠ v.ownBlock) := fun b v hne hb => by
      have h1 := h.apart b a v u hne hb ha
      cases hv : v.ownBlock with
      | none =>
        refine ⟨Or.inl rfl, ?_⟩
        cases hv' : v'.ownBlock with
        | none => exact Or.inl rfl
        | some k => right; intro q; cases q
      | some k =>
        have h2 := hge b v hb k hv
        rcases hl with hl | hl
        · rcases h1 with h1 | h1
          · rw [hv] at h1; cases h1
          · rw [hl, ← hv]; exact ⟨Or.inr h1, Or.inr (fun q => h1 q.symm)⟩
        · rw [hl]
          exact ⟨Or.inr (fun q => by cases q; omega), Or.inr (fun q => by cases q; omega)⟩
    have hlen := (List.getElem?_eq_some_iff.1 ha).1
    by_cases e : b = a
    · subst e
      rw [List.getElem?_set_self hlen] at hb
      cases hb
      have e2 : c ≠ b := fun q => hbc q.symm
      rw [List.getElem?_set_ne (fun q => hbc q)] at hc
      exact (key c x e2 hc).2
    · rw [List.getElem?_set_ne (fun q => e q.symm)] at hb
      by_cases e2 : c = a
      · subst e2
        rw [List.getElem?_set_self hlen] at hc
        cases hc
        exact (key b v e hb).1
      · rw [List.getElem?_set_ne (fun q => e2 q.symm)] at hc
        exact h.apart b c v x hbc hb hc
def FolX (n : Nat) (D : Int × Int → Prop) (X : Nat → List Int) : Prop := ∀ a, a < n → (X a).Nodup ∧ ∀ b, b ∈ X a ↔ D ((a : Int), b)
def Folls (w : World) (n : Nat) (D : Int × Int → Prop) (e : Ending) (w' : World) : Prop :=
  ∃ fb us X, e = .returned (.slice (some ⟨fb, 0, none⟩) n n) ∧ us.length = n ∧ FAt w' (fb + 1) fb us X ∧ FolX n D X ∧ Below w.heap.size w w' ∧ w.heap.size ≤ fb
set_option maxHeartbeats 4000000 in
theorem followers_any {w : World} {g mw mc md mp : Nat} {lv : Value} {hs : List Hm} {f : Int × Int → Option Value} {nw nc : Nat} {F : Int → Option Value} {G : Int → List Int} (h : HAt w g mw mc md mp lv hs f nw nc F G) {nd : Nat} (hd : SMp w md nd (DepI hs)) :
    Calls Try.prog 47 #[.pointer (some ⟨g, 0, none⟩)] w fun e w' => Folls w hs.length (DepI hs) e w' := by
  obtain ⟨oa2, cap2, hlv, hcs2⟩ := h.list.hold
  clear hcs2
  subst hlv
  have HFO : Hid (∀ fb us X w', us.length = hs.length → FAt w' (fb + 1) fb us X → FolX hs.length (DepI hs) X → Below w.heap.size w w' → w.heap.size ≤ fb → Folls w hs.length (DepI hs) (.returned (.slice (some ⟨fb, 0, none⟩) hs.length hs.length)) w') := fun fb us X w' a b c d e => ⟨fb, us, X, rfl, a, b, c, d, e⟩
  generalize Folls w hs.length (DepI hs) = PP at HFO ⊢
  obtain ⟨n2, HN2⟩ : ∃ n2, Hid (hs.length = n2) := ⟨_, rfl⟩
  have H122 : n2 ≤ 12 := by rw [← HN2.out]; exact h.few
  rw [HN2.out] at h HFO
  have c0 : w.cell? ⟨g, 0, none⟩ = some (.slice oa2 n2 cap2) := row_at h.row 0 _ rfl
  obtain ⟨inf, hi1, hi2, hi3, hi4⟩ := Ii.info_parts info103
  obtain ⟨C0, HC0⟩ : ∃ C0, Hid ((List.replicate n2 (Value.slice none 0 0)).toArray = C0) := ⟨_, rfl⟩
  have hmk : (Instr.makeSlice 106 (.int .i64 (n2 : Int)) (.int .i64 (n2 : Int))).run Try.prog w = .ok (.slice (some ⟨w.heap.size, 0, none⟩) n2 n2) (w.alloc (.cells C0 103)) := by
    have := run_makeSlice (P := Try.prog) (w := w) 106 103 inf (.slice none 0 0) Try.underlying106 hi1 hi2 .i64 .i64 (n2 : Int) (n2 : Int) (by omega) (Int.le_refl _) (by rw [hi3]; simp; omega) (by rw [hi4]; omega) (by omega)
    rw [hi3] at this
    simp only [Int.toNat_natCast] at this
    rw [made_one _ rfl, HC0.out] at this
    exact this
  have b1 : Below w.heap.size w (w.alloc (.cells C0 103)) := (Below.refl _ _).alloc (Nat.le_refl _) _
  have F1 : FAt (w.alloc (.cells C0 103)) (w.heap.size + 1) w.heap.size (List.replicate n2 (.slice none 0 0)) (fun _ => []) :=
    ⟨by rw [HC0.out]; exact Row.new _ _ _, Nat.lt_succ_self _, fun a u hu => by
      have : u = .slice none 0 0 := by
        have := List.mem_of_getElem? hu
        exact (List.mem_replicate.1 this).2
      subst this
      exact GI.Nums.nil _ _, fun a b u v _ hu hv => by
      have : u = .slice none 0 0 := by
        have := List.mem_of_getElem? hu
        exact (List.mem_replicate.1 this).2
      subst this
      exact Or.inl rfl⟩
  have h1 := h.below b1
  have d1 := SMp.below hd b1
  clear hd h hi1 hi2 hi3 hi4
  have HFB : Hid (w.heap.size ≤ w.heap.size) := Nat.le_refl _
  have HB1 : Hid _ := b1
  go_enter Try.func47, Try.ntmps47
  go_upto_region 2 with fail
  generalize hfb : w.heap.size = fb at F1 ⊢
  generalize w.alloc (.cells C0 103) = w1 at F1 h1 d1 HB1 ⊢
  clear b1 hmk c0
  obtain ⟨fd, hd1, hd2⟩ := d1
  have HD2 : Hid _ := hd2
  have c3 : w1.cell? ⟨g, 3, none⟩ = some (.map (some md)) := row_at h1.row 3 _ rfl
  obtain ⟨w0, cnt0, hrun0, R0, hcn0, gi, si⟩ := KMap.range Try.underlying94 hd1
  have Oi : Below w1.heap.size w1 w0 := by
    have o := Off.of_grown (F := fun _ => False) gi (fun k hk => by cases hk)
    exact ⟨o.os, o.tape, o.output, o.size, fun k hk => o.block k hk (fun q => q)⟩
  have F0 := F1.below Oi
  have B0 := below_trans HB1.out Oi
  have I0 : ∀ a, a < n2 → ((fun _ => []) a : List Int).Nodup ∧ ∀ b : Int, b ∈ ((fun _ => []) a : List Int) ↔ (DepI hs ((a : Int), b) ∧ (fd ((a : Int), b)).isSome = false) := fun a _ => ⟨List.nodup_nil, fun b => ⟨fun q => by simp at q, fun ⟨q1, q2⟩ => by rw [(hd2 _).1 q1] at q2; cases q2⟩⟩
  have HRL : Hid (fb < w1.heap.size) := F1.row.lt
  have HWF : Hid (w.heap.size = fb) := hfb
  have hus0 : (List.replicate n2 (Value.slice none 0 0)).length = n2 := List.length_replicate
  generalize hr : w1.heap.size = r at R0 hrun0 HRL
  go_upto_region 3 with fail
  clear hrun0 c3 gi si h1 hd1 hd2 hr F1 HB1 Oi hfb
  go_loopw [16] (fun _ wr => ∃ (left : Int × Int → Bool) (cnt : Nat) (us : List Value) (X : Nat → List Int), KRng E105 wr md r nd fd left cnt ∧ us.length = n2 ∧ FAt wr (fb + 1) fb us X ∧ (∀ a, a < n2 → (X a).Nodup ∧ ∀ b : Int, b ∈ X a ↔ (DepI hs ((a : Int), b) ∧ left ((a : Int), b) = false)) ∧ Below w.heap.size w wr) (fun _ wr => wr.rangeLeft md r)
  case atStart => exact ⟨_, cnt0, _, _, R0, hus0, F0, I0, B0⟩
  case round =>
    clear R0 I0 F0 hus0 B0 hcn0
    obtain ⟨left, cnt, us, X, Rk, hus, hF, Ik, Bw⟩ := hrel
    have hle := Rk.left_eq
    rcases Rk.next with ⟨c0, hl0, hnx⟩ | ⟨s, vv, w2, cnt', hy, hlf, hfy, hnx, Rk', hlt, gk, sk', hen⟩
    · have hfin := HFO.out fb us X wr hus hF (fun a ha => ⟨(Ik a ha).1, fun b => by
        rw [(Ik a ha).2 b]
        refine ⟨fun q => q.1, fun q => ⟨q, hl0 _ ?_⟩⟩
        obtain ⟨i, j, e, hi, hj⟩ := q.nat
        rw [e]
        have := HN2.out
        exact stepok_of (by omega) (by omega)⟩) Bw (by rw [HWF.out]; exact Nat.le_refl _)
      clear hl0 Ik Bw Rk hle hF
      go_wp2
      exact hfin
    · obtain ⟨hds, rfl⟩ := SMp.unit (hs := hs) HD2.out hfy
      obtain ⟨i, j, rfl, hi, hj⟩ := hds.nat
      replace hnx : ∀ ty, (Instr.next (.pointer (some ⟨r, 0, none⟩)) false ty).run Try.prog wr = .ok (.tuple #[.bool true, .agg #[.int .i64 (i : Int), .int .i64 (j : Int)], .agg #[]]) w2 := hnx
      replace hen : (Instr.entry (.pointer (some ⟨r, 0, none⟩))).run Try.prog w2 = .ok (.tuple #[.agg #[.int .i64 (i : Int), .int .i64 (j : Int)], .agg #[]]) w2 := hen
      obtain ⟨or1, hor1, hor2, hor3⟩ := Rk.range_is
      have Ork : Off (· = r) wr w2 := Off.of_grown gk (fun q hq => by cases hq; rfl)
      have hrc : ∀ cs t x, wr.heap[r]? = some (.cells cs t x) → False := fun cs t x h => by rw [hor1] at h; exact hor2 _ _ _ (Option.some.inj h)
      have hF2 := hF.off Ork (fun jj cs t x e hc => by rw [e] at hc; exact hrc _ _ _ hc)
      have Bw2 := below_off Bw Ork (fun k e => by rw [e, HWF.out]; have := HRL.out; omega)
      have HDS : Hid (DepI hs ((i : Int), (j : Int))) := hds
      have HIK : Hid _ := Ik
      have HLF : Hid (left ((i : Int), (j : Int)) = true) := hlf
      clear hrc hor1 hor2 hor3 Ork Bw sk' gk Rk hfy hlf hy hds Ik hF
      go_upto_region 5 with fail
      have rT : Row (w2.alloc (.cells #[.int .i64 (i : Int), .int .i64 (j : Int)] 105)) w2.heap.size #[.int .i64 (i : Int), .int .i64 (j : Int)] 105 := Row.new _ _ _
      have b3 : Below w2.heap.size w2 (w2.alloc (.cells #[.int .i64 (i : Int), .int .i64 (j : Int)] 105)) := (Below.refl _ _).alloc (Nat.le_refl _) _
      have hF3 := hF2.below b3
      have Bw3 := below_trans Bw2 b3
      have Rk3 := Rk'.off (Off.of_below (F := fun _ => False) b3) (fun q => q) (fun q => q)
      generalize w2.alloc (.cells #[.int .i64 (i : Int), .int .i64 (j : Int)] 105) = w3 at rT hF3 Bw3 Rk3 ⊢
      generalize w2.heap.size = T at rT ⊢
      clear b3 Bw2 Rk' hnx hen hF2
      rw [HN2.out] at hi hj
      have i1 : (i : Int) < (n2 : Int) := by omega
      have i3 : (0 : Int) ≤ (i : Int) := by omega
      obtain ⟨u, hu⟩ : ∃ u, us[i]? = some u := ⟨_, List.getElem?_eq_getElem (by rw [hus]; exact hi)⟩
      have hcu : w3.cell? ⟨fb, i, none⟩ = some u := by
        rw [cell_of_row _ _ _ _ _ _ hF3.row, List.getElem?_toArray]; exact hu
      have HUI : Hid _ := hu
      clear hu
      refine wp_region_last (S := fun w' => Row w' T #[.int .i64 (i : Int), .int .i64 (j : Int)] 105 ∧ w'.cell? ⟨fb, i, none⟩ = some u) 13 (by kernel_rfl) ⟨rT, hcu⟩ fun hS => ?_
      refine wpAnyL_take (i := 0) (v := .slice (some ⟨fb, 0, none⟩) n2 n2) rfl (by kernel_rfl) (by kernel_rfl) (by kernel_rfl) (by kernel_rfl) (fun _ _ _ h => h) (Or.inl ⟨by rfl, fun w _ => by go_simp⟩) hS ?_
      try simp only [Act.put, nz0, nz1, nz2, nz3, nz4, nz5]
      refine wpAnyL_take (i := 1) (v := .pointer (some ⟨T, 0, none⟩)) rfl (by kernel_rfl) (by kernel_rfl) (by kernel_rfl) (by kernel_rfl) (fun _ _ _ h => h) (Or.inl ⟨by rfl, fun w _ => by go_simp⟩) hS ?_
      try simp only [Act.put, nz0, nz1, nz2, nz3, nz4, nz5]
      refine wpAnyL_take (i := 2) (v := .int .i64 (i : Int)) rfl (by kernel_rfl) (by kernel_rfl) (by kernel_rfl) (by kernel_rfl) (fun _ _ _ h => h) (Or.inl ⟨by rfl, fun w h => by have c := row_at h.1 0 _ rfl; go_simp⟩) hS ?_
      try simp only [Act.put, nz0, nz1, nz2, nz3, nz4, nz5]
      refine wpAnyL_take (i := 3) (v := .slice (some ⟨fb, 0, none⟩) n2 n2) rfl (by kernel_rfl) (by kernel_rfl) (by kernel_rfl) (by kernel_rfl) (fun _ _ _ h => h) (Or.inl ⟨by rfl, fun w _ => by go_simp⟩) hS ?_
      try simp only [Act.put, nz0, nz1, nz2, nz3, nz4, nz5]
      refine wpAnyL_take (i := 4) (v := .pointer (some ⟨T, 0, none⟩)) rfl (by kernel_rfl) (by kernel_rfl) (by kernel_rfl) (by kernel_rfl) (fun _ _ _ h => h) (Or.inl ⟨by rfl, fun w _ => by go_simp⟩) hS ?_
      try simp only [Act.put, nz0, nz1, nz2, nz3, nz4, nz5]
      refine wpAnyL_take (i := 5) (v := .int .i64 (i : Int)) rfl (by kernel_rfl) (by kernel_rfl) (by kernel_rfl) (by kernel_rfl) (fun _ _ _ h => h) (Or.inl ⟨by rfl, fun w h => by have c := row_at h.1 0 _ rfl; go_simp⟩) hS ?_
      try simp only [Act.put, nz0, nz1, nz2, nz3, nz4, nz5]
      refine wpAnyL_take (i := 6) (v := .pointer (some ⟨fb, i, none⟩)) rfl (by kernel_rfl) (by kernel_rfl) (by kernel_rfl) (by kernel_rfl) (fun _ _ _ h => h) (Or.inl ⟨by rfl, fun w _ => by go_simp⟩) hS ?_
      try simp only [Act.put, nz0, nz1, nz2, nz3, nz4, nz5]
      refine wpAnyL_take (i := 7) (v := u) rfl (by kernel_rfl) (by kernel_rfl) (by kernel_rfl) (by kernel_rfl) (fun _ _ _ h => h) (Or.inl ⟨by rfl, fun w h => by have c := h.2; go_simp⟩) hS ?_
      try simp only [Act.put, nz0, nz1, nz2, nz3, nz4, nz5]
      refine wpAnyL_take (i := 8) (v := .pointer (some ⟨T, 1, none⟩)) rfl (by kernel_rfl) (by kernel_rfl) (by kernel_rfl) (by kernel_rfl) (fun _ _ _ h => h) (Or.inl ⟨by rfl, fun w _ => by go_simp⟩) hS ?_
      try simp only [Act.put, nz0, nz1, nz2, nz3, nz4, nz5]
      refine wpAnyL_take (i := 9) (v := .int .i64 (j : Int)) rfl (by kernel_rfl) (by kernel_rfl) (by kernel_rfl) (by kernel_rfl) (fun _ _ _ h => h) (Or.inl ⟨by rfl, fun w h => by have c := row_at h.1 1 _ rfl; go_simp⟩) hS ?_
      try simp only [Act.put, nz0, nz1, nz2, nz3, nz4, nz5]
      refine wpAnyL_ready (rs := [10]) (by kernel_rfl) (by simp) ?_
      refine AllReadyL.cons rfl (fun K hK => ?_) AllReadyL.nil
      have rZ : Row (w3.alloc (.cells #[.int .i64 (j : Int)] 3)).drew w3.heap.size #[.int .i64 (j : Int)] 3 := Row.new w3 _ _
      have b4 : Below w3.heap.size w3 (w3.alloc (.cells #[.int .i64 (j : Int)] 3)).drew := ((Below.refl _ _).alloc (Nat.le_refl _) _).drew
      have hS4 := (show Row (w3.alloc (.cells #[.int .i64 (j : Int)] 3)).drew T #[.int .i64 (i : Int), .int .i64 (j : Int)] 105 ∧ (w3.alloc (.cells #[.int .i64 (j : Int)] 3)).drew.cell? ⟨fb, i, none⟩ = some u from ⟨rT.below b4 rT.lt, cell_keep hcu b4⟩)
      have hF4 := hF3.below b4
      have Bw4 := below_trans Bw3 b4
      have Rk4 := Rk3.off (Off.of_below (F := fun _ => False) b4) (fun q => q) (fun q => q)
      go_simp
      refine hK.out _ _ (fun _ => hS4) ?_
      try simp only [Act.put, nz0, nz1, nz2, nz3, nz4, nz5]
      generalize hZ : w3.heap.size = Z at rZ ⊢
      clear hZ
      generalize (w3.alloc (.cells #[.int .i64 (j : Int)] 3)).drew = w4 at rZ b4 hS4 hF4 Bw4 Rk4 ⊢
      clear b4 hF3 Bw3 Rk3 rT hcu hS
      have hnu := hF4.nums i u HUI.out
      have HIKI : Hid _ := HIK.out i hi
      have HFL : Hid (fb < w4.heap.size) := hF4.row.lt
      have HAP : Hid _ := fun ty => hnu.snoc ty Z (j : Int) rZ HFL.out (by
        have h1 := HIKI.out.1
        have h2 : (X i).length ≤ ((List.range n2).map fun (k : Nat) => (k : Int)).length := nodup_le h1 (fun b hb => by
          obtain ⟨i', j', e, _, hj'⟩ := ((HIKI.out.2 b).1 hb).1.nat
          have e2 : b = (j' : Int) := by have := congrArg Prod.snd e; exact this
          rw [e2]
          exact List.mem_map.2 ⟨j', List.mem_range.2 (by rw [← HN2.out]; exact hj'), rfl⟩)
        simp at h2
        omega)
      have hubC : ∀ b, u.ownBlock = some b → ∃ cs, w4.heap[b]? = some (.cells cs 3 (0, 0)) := hnu.cells
      have hubB : Hid (∀ b, u.ownBlock = some b → fb + 1 ≤ b) := fun b hb => (hnu.lt b hb).1
      clear rZ hnu
      refine wpAnyL_ready (rs := [11]) (by kernel_rfl) (by simp) ?_
      refine AllReadyL.cons rfl (fun K hK => step_of rfl (Us.wp_copy (.tmp 27) (.tmp 30) 103 rfl _ _ rfl rfl (T := fun v' w' => GI.Nums w' (fb + 1) v' (X i ++ [(j : Int)]) ∧ w4.grownBy w' u.ownBlock ∧ (v'.ownBlock = u.ownBlock ∨ v'.ownBlock = some w4.heap.size)) (fun ty => HAP.out ty) ?_)) AllReadyL.nil
      intro v5 w5 hT
      obtain ⟨hn5, hg5, hl5⟩ := hT
      have Ou : Off (fun k => u.ownBlock = some k) w4 w5 := Off.of_grown hg5 (fun k e => e)
      have hnm : ∀ m, (∃ es cl, w4.heap[m]? = some (.map es cl)) → ¬ u.ownBlock = some m := fun m ⟨es, cl, hm⟩ q => by obtain ⟨cs, hc⟩ := hubC m q; rw [hm] at hc; cases hc
      obtain ⟨hrow5, hF6⟩ := hF4.put HUI.out hg5 hn5 hl5
      have hS5 := (show Row w5 T #[.int .i64 (i : Int), .int .i64 (j : Int)] 105 ∧ w5.cell? ⟨fb, i, none⟩ = some u from
        ⟨hS4.1.off Ou (fun e => by obtain ⟨cs, hc⟩ := hubC _ e; have := hS4.1; unfold Row at this; rw [this] at hc; cases hc), by
          rw [cell_of_row _ _ _ _ _ _ hrow5, List.getElem?_toArray]; exact HUI.out⟩)
      have Bw5 := below_off Bw4 Ou (fun k e => by have := hubB.out k e; rw [HWF.out]; omega)
      have Rk5 := Rk4.off Ou (hnm _ Rk4.map.is) (fun e => by obtain ⟨cs, hc⟩ := hubC _ e; obtain ⟨o1, ho1, ho2, _⟩ := Rk4.range_is; rw [ho1] at hc; exact ho2 _ _ _ (Option.some.inj hc))
      obtain ⟨oa7, cap7, hv7⟩ := Ii.Own.form hn5
      obtain ⟨len7, HL7⟩ : ∃ len7, Hid (((X i ++ [(j : Int)]).map GI.uO).length = len7) := ⟨_, rfl⟩
      rw [HL7.out] at hv7
      subst hv7
      have fz : w5.frozen? ⟨fb, i, none⟩ = false := row_frozen hrow5 i
      have o6 : Off (· = fb) w5 (w5.setCell ⟨fb, i, none⟩ (.slice oa7 len7 cap7)) := Off.of_setCell _ _ _ rfl
      have Rk6 := Rk5.off o6 (fun e => by obtain ⟨es, cl, hm⟩ := Rk5.map.is; rw [e, hrow5] at hm; cases hm) (fun e => by obtain ⟨o1, ho1, ho2, _⟩ := Rk5.range_is; rw [e, hrow5] at ho1; exact ho2 _ _ _ (Option.some.inj ho1).symm)
      have Bw6 := below_off Bw5 o6 (fun k e => by rw [e, HWF.out]; exact Nat.le_refl _)
      have hI6 : ∀ a, a < n2 → (xput X i (X i ++ [(j : Int)]) a).Nodup ∧ ∀ b : Int, b ∈ xput X i (X i ++ [(j : Int)]) a ↔ (DepI hs ((a : Int), b) ∧ (left ((a : Int), b) && !decide (((a : Int), b) = ((i : Int), (j : Int)))) = false) := fun a ha => by
        unfold xput
        by_cases e : a = i
        · subst e
          rw [if_pos rfl]
          have q := HIKI.out
          refine ⟨List.nodup_append.2 ⟨q.1, by simp, fun x hx y hy => ?_⟩, fun b => ?_⟩
          · simp at hy; subst hy
            intro e; subst e
            have := ((q.2 _).1 hx).2
            rw [HLF.out] at this; cases this
          · rw [List.mem_append, q.2 b]
            by_cases eb : b = (j : Int)
            · subst eb; simp [HDS.out]
            · simp [eb]
        · rw [if_neg e]
          have q := HIK.out a ha
          have e2 : ∀ b : Int, (((a : Int), b) = ((i : Int), (j : Int))) = False := fun b => by
            simp; intro q; omega
          exact ⟨q.1, fun b => by rw [q.2 b]; simp [e2 b]⟩
      have hus6 : (us.set i (.slice oa7 len7 cap7)).length = n2 := by rw [List.length_set]; exact hus
      have hle6 := Rk6.left_eq
      have HF6 : Hid _ := hF6
      have HI6 : Hid _ := hI6
      clear hn5 hg5 hl5 Ou hnm hF4 hrow5 Bw4 Rk4 Bw5 Rk5 hS4 HAP hubC hubB HIKI o6 hF6 hI6
      refine hK.out _ _ (fun _ => hS5) ?_
      try simp only [Act.put, nz0, nz1, nz2, nz3, nz4, nz5]
      refine wpAnyL_ready (rs := [12]) (by kernel_rfl) (by simp) ?_
      refine AllReadyL.cons rfl (fun K hK => ?_) AllReadyL.nil
      go_simp
      refine hK.out _ _ (fun _ => hS5) ?_
      try simp only [Act.put, nz0, nz1, nz2, nz3, nz4, nz5]
      refine wpAnyL_ready (rs := [13]) (by kernel_rfl) (by simp) ?_
      refine AllReadyL.cons rfl (fun K hK => ?_) AllReadyL.nil
      have cu5 := hS5.2
      clear hS5
      go_simp
      refine hK.out _ _ (fun q => absurd rfl q) ?_
      try simp only [Act.put, nz0, nz1, nz2, nz3, nz4, nz5]
      refine wpAnyL_done (by kernel_rfl) ?_ _
      clear cu5 fz
      go_wp2
      go_roundw
      case rel => exact ⟨_, cnt', _, _, Rk6, hus6, HF6.out, HI6.out, Bw6⟩
      case measure => rw [hle6, hle]; exact hlt
theorem below_offN {F : Nat → Prop} {B : Nat} {w a b : World} (h : Below B w a) (k : Off F a b) (hF : ∀ j, F j → B ≤ j) (hB : B ≤ w.heap.size) : Below B w b :=
  ⟨k.os.trans h.os, k.tape.trans h.tape, k.output.trans h.output, Nat.le_trans h.size k.size, fun i hi => (k.block i (Nat.lt_of_lt_of_le hi (Nat.le_trans hB h.size)) (fun q => by have := hF _ q; omega)).trans (h.block i hi)⟩
structure RSt (w : World) (cb T7 T8 n : Nat) (bs : List Bool) (W : List Int) : Prop where
  come : Row w cb (bs.map Value.bool).toArray 4
  len : bs.length = n
  c7 : Row w T7 #[.slice (some ⟨cb, 0, none⟩) n n] 66
  way : ∃ u, Row w T8 #[u] 103 ∧ GI.Nums w cb u W
  lo : cb < T7 ∧ cb < T8
def Vis (w : World) (cb T7 T8 n : Nat) (bs : List Bool) (W : List Int) (i : Nat) (e : Ending) (w' : World) : Prop :=
  e = .returned (.tuple #[]) ∧ Below cb w w' ∧ ((bs[i]? = some true ∧ RSt w' cb T7 T8 n bs W) ∨ (bs[i]? = some false ∧ RSt w' cb T7 T8 n (bs.set i true) (W ++ [(i : Int)])))
set_option maxHeartbeats 2000000 in
theorem visit_any {w : World} {cb T7 T8 n : Nat} {bs : List Bool} {W : List Int} (h : RSt w cb T7 T8 n bs W) (i : Nat) (hi : i < n) (hn : n ≤ 12) (hW : W.length ≤ 1000) :
    Calls Try.prog 63 #[.int .i64 (i : Int), .pointer (some ⟨T7, 0, none⟩), .pointer (some ⟨T8, 0, none⟩)] w fun e w' => Vis w cb T7 T8 n bs W i e w' := by
  obtain ⟨r1, hl, r2, ⟨u, r3, hu⟩, lo⟩ := h
  obtain ⟨b, hb⟩ : ∃ b, bs[i]? = some b := ⟨_, List.getElem?_eq_getElem (by rw [hl]; exact hi)⟩
  have HB : Hid (bs[i]? = some b) := hb
  have HU : Hid (GI.Nums w cb u W) := hu
  have HR1 : Hid (Row w cb (bs.map Value.bool).toArray 4) := r1
  have c1 : w.cell? ⟨cb, i, none⟩ = some (.bool b) := by
    rw [cell_of_row _ _ _ _ _ _ r1, List.getElem?_toArray, List.getElem?_map, hb]; rfl
  have c7 : w.cell? ⟨T7, 0, none⟩ = some (.slice (some ⟨cb, 0, none⟩) n n) := row_at r2 0 _ rfl
  have i1 : (i : Int) < (n : Int) := by omega
  have i3 : (0 : Int) ≤ (i : Int) := by omega
  have fz1 : w.frozen? ⟨cb, i, none⟩ = false := row_frozen r1 i
  have hc8 : cb ≠ T8 := by omega
  have hc7 : cb ≠ T7 := by omega
  have HF : Hid (∀ w', Below cb w w' → bs[i]? = some true → RSt w' cb T7 T8 n bs W → Vis w cb T7 T8 n bs W i (.returned (.tuple #[])) w') := fun w' a b c => ⟨rfl, a, Or.inl ⟨b, c⟩⟩
  have HG : Hid (∀ w', Below cb w w' → bs[i]? = some false → RSt w' cb T7 T8 n (bs.set i true) (W ++ [(i : Int)]) → Vis w cb T7 T8 n bs W i (.returned (.tuple #[])) w') := fun w' a b c => ⟨rfl, a, Or.inr ⟨b, c⟩⟩
  generalize Vis w cb T7 T8 n bs W i = PP at HF HG ⊢
  cases b with
  | true =>
    have hfin := HF.out w (Below.refl _ _) HB.out ⟨r1, hl, r2, ⟨u, r3, HU.out⟩, lo⟩
    clear r1 r2 r3 hu hb
    go_enter Try.func63, Try.ntmps63
    go_wp2
    go_end0
    exact hfin
  | false =>
    have o1 : Off (· = cb) w (w.setCell ⟨cb, i, none⟩ (.bool true)) := Off.of_setCell _ _ _ rfl
    have r1' : Row (w.setCell ⟨cb, i, none⟩ (.bool true)) cb ((bs.set i true).map Value.bool).toArray 4 := by
      have := row_set r1 i (.bool true)
      rw [List.setIfInBounds_toArray, ← List.map_set] at this
      exact this
    have r2' := r2.off o1 (fun e => hc7 e.symm)
    have r3' := r3.off o1 (fun e => hc8 e.symm)
    have hu' := HU.out.off o1 (fun k hk e => by
      obtain ⟨cs, hc⟩ := HU.out.cells k hk
      have := HR1.out
      unfold Row at this
      rw [e, this] at hc; cases hc)
    have B1 : Below cb w (w.setCell ⟨cb, i, none⟩ (.bool true)) := (Below.refl cb w).setCell (p := ⟨cb, i, none⟩) (Nat.le_refl cb) _
    have HSZ : Hid (cb ≤ w.heap.size) := Nat.le_of_lt r1.lt
    clear r1 r2 r3 hu hb o1
    go_enter Try.func63, Try.ntmps63
    go_upto_region 2 with fail
    have HB1 : Hid (Below cb w (w.setCell ⟨cb, i, none⟩ (.bool true))) := B1
    have HSZ1 : Hid (cb ≤ (w.setCell ⟨cb, i, none⟩ (.bool true)).heap.size) := Nat.le_trans HSZ.out B1.size
    clear B1
    generalize w.setCell ⟨cb, i, none⟩ (.bool true) = w1 at r1' r2' r3' hu' HB1 HSZ1 ⊢
    clear c1 c7 fz1
    have c8 : w1.cell? ⟨T8, 0, none⟩ = some u := row_at r3' 0 _ rfl
    have fz8 : w1.frozen? ⟨T8, 0, none⟩ = false := row_frozen r3' 0
    have rZ : Row (w1.alloc (.cells #[.int .i64 (i : Int)] 3)) w1.heap.size #[.int .i64 (i : Int)] 3 := Row.new w1 _ _
    have b4 : Below w1.heap.size w1 (w1.alloc (.cells #[.int .i64 (i : Int)] 3)) := (Below.refl _ _).alloc (Nat.le_refl _) _
    have hu4 : GI.Nums (w1.alloc (.cells #[.int .i64 (i : Int)] 3)) cb u W := hu'.off (Off.of_below (F := fun _ => False) b4) (fun _ _ q => q)
    have HR1 : Hid (Row (w1.alloc (.cells #[.int .i64 (i : Int)] 3)) cb ((bs.set i true).map Value.bool).toArray 4) := r1'.below b4 r1'.lt
    have HR2 : Hid (Row (w1.alloc (.cells #[.int .i64 (i : Int)] 3)) T7 #[.slice (some ⟨cb, 0, none⟩) n n] 66) := r2'.below b4 r2'.lt
    have HR3 : Hid (Row (w1.alloc (.cells #[.int .i64 (i : Int)] 3)) T8 #[u] 103) := r3'.below b4 r3'.lt
    have HU4 : Hid (GI.Nums (w1.alloc (.cells #[.int .i64 (i : Int)] 3)) cb u W) := hu4
    have HB4 : Hid (Below cb w (w1.alloc (.cells #[.int .i64 (i : Int)] 3))) := HB1.out.alloc HSZ1.out _
    have HAP : Hid (∀ ty, ∃ v' w', (Builtin.append_ #[103, 103] ty #[u, .slice (some ⟨w1.heap.size, 0, none⟩) 1 1]).run Try.prog (w1.alloc (.cells #[.int .i64 (i : Int)] 3)) = .ok v' w' ∧ GI.Nums w' cb v' (W ++ [(i : Int)]) ∧ (w1.alloc (.cells #[.int .i64 (i : Int)] 3)).grownBy w' u.ownBlock ∧ (v'.ownBlock = u.ownBlock ∨ v'.ownBlock = some (w1.alloc (.cells #[.int .i64 (i : Int)] 3)).heap.size)) := fun ty => hu4.snoc ty w1.heap.size (i : Int) rZ (Nat.le_trans HSZ1.out b4.size) (by omega)
    clear r1' r2' r3' hu' rZ b4 hu4
    go_wp2_with (
      refine Ii.wpList_copy rfl (.tmp 12) (.tmp 14) 103 rfl u (.slice (some ⟨w1.heap.size, 0, none⟩) 1 1) rfl rfl HAP.out ?_
      clear c8 fz8
      generalize w1.alloc (.cells #[.int .i64 (i : Int)] 3) = w4 at HR1 HR2 HR3 HU4 HB4 HAP ⊢
      intro v5 w5 hT
      obtain ⟨hn5, hg5, hl5⟩ := hT
      have Ou : Off (fun k => u.ownBlock = some k) w4 w5 := Off.of_grown hg5 (fun k e => e)
      have hbad : ∀ j cs t, w4.heap[j]? = some (.cells cs t (0, 0)) → t ≠ 3 → ¬ u.ownBlock = some j := fun j cs t hj ht q => by
        obtain ⟨cs', hc⟩ := HU4.out.cells j q
        rw [hj] at hc; cases hc; exact ht rfl
      have q1 := HR1.out.off Ou (hbad _ _ _ HR1.out (by decide))
      have q2 := HR2.out.off Ou (hbad _ _ _ HR2.out (by decide))
      have q3 := HR3.out.off Ou (hbad _ _ _ HR3.out (by decide))
      have B5 : Below cb w w5 := below_offN HB4.out Ou (fun k hk => (HU4.out.lt k hk).1) HSZ.out
      have o6 : Off (· = T8) w5 (w5.setCell ⟨T8, 0, none⟩ v5) := Off.of_setCell _ _ _ rfl
      have hn8 : ¬ v5.ownBlock = some T8 := fun e => by
        obtain ⟨cs', hc⟩ := hn5.cells T8 e
        have := q3
        unfold Row at this
        rw [this] at hc; cases hc
      have hfin := HG.out (w5.setCell ⟨T8, 0, none⟩ v5) (B5.setCell (p := ⟨T8, 0, none⟩) (Nat.le_of_lt lo.2) _) HB.out ⟨q1.off o6 hc8, by rw [List.length_set]; exact hl, q2.off o6 (fun e => by have := q3; rw [← e] at this; have h2 := q2; unfold Row at this h2; rw [h2] at this; cases this), ⟨v5, by
        have := row_set q3 0 v5
        exact this, hn5.off o6 (fun k hk e => hn8 (by rw [hk]; exact congrArg some e))⟩, lo⟩
      have c85 : w5.cell? ⟨T8, 0, none⟩ = some u := row_at q3 0 _ rfl
      have fz85 : w5.frozen? ⟨T8, 0, none⟩ = false := row_frozen q3 0
      obtain ⟨oa5, cap5, hv5⟩ := Ii.Own.form hn5
      obtain ⟨len5, HL5⟩ : ∃ len5, Hid (((W ++ [(i : Int)]).map GI.uO).length = len5) := ⟨_, rfl⟩
      rw [HL5.out] at hv5
      subst hv5
      clear q1 q2 q3 hn5 hg5 hl5 Ou hbad HU4 HAP o6 HR1 HR2 HR3 B5 hn8)
    go_end0
    exact hfin
end Go.Proofs.Ytdlllnkcjfpajaa
