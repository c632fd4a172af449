/-
  Plain facts: a map of lists of numbers that each lie in a row of their own.
-/
import Derived.Test.YtdlllnkcjfpajaaJq00
import Derived.Test.YtdlllnkcjfpajaaJq02
namespace Go.Proofs.Ytdlllnkcjfpajaa
open Go.ChangeShapes Go.WideShapes Go.ChangeAt Go.RowKit
set_option linter.unusedVariables false
set_option linter.unusedSimpArgs false
set_option maxRecDepth 20000
namespace GU
def uO (x : Int) : Us.O := ⟨x⟩
def Nums (w : World) (base : Nat) (v : Value) (xs : List Int) : Prop := Us.Own w base v (xs.map uO)
theorem flat_uO (xs : List Int) : Us.flat (xs.map uO) = xs.map (Value.int .u32) := by
  induction xs with
  | nil => rfl
  | cons x r ih => show _ :: Us.flat (r.map uO) = _; rw [ih]; rfl
theorem Nums.nil (w : World) (base : Nat) : Nums w base (.slice none 0 0) [] := World.ownsRow_nil _ _ _ _
theorem Nums.kept {w w' : World} {base : Nat} {v : Value} {xs : List Int} {row : Option Nat} (h : Nums w base v xs) (hg : w.grownBy w' row) (hne : v.ownBlock = none ∨ v.ownBlock ≠ row) : Nums w' base v xs := World.ownsRow.kept h hg hne
theorem Nums.off {F : Nat → Prop} {w w' : World} {base : Nat} {v : Value} {xs : List Int} (h : Nums w base v xs) (ho : Off F w w') (hF : ∀ b, v.ownBlock = some b → ¬ F b) : Nums w' base v xs := by
  have hl := World.ownsRow.lt h
  obtain ⟨h1, h2⟩ := h
  refine ⟨h1, ?_⟩
  rcases h2 with h2 | ⟨g, cap, cur, rfl, hb', hc, rest⟩
  · exact Or.inl h2
  · have := hl g (by simp [Value.ownBlock])
    exact Or.inr ⟨g, cap, cur, rfl, hb', (ho.block g this.2 (hF g (by simp [Value.ownBlock]))).trans hc, rest⟩
theorem Nums.lt {w : World} {base : Nat} {v : Value} {xs : List Int} (h : Nums w base v xs) : ∀ g, v.ownBlock = some g → base ≤ g ∧ g < w.heap.size := World.ownsRow.lt h
theorem Nums.cells {w : World} {base : Nat} {v : Value} {xs : List Int} (h : Nums w base v xs) : ∀ g, v.ownBlock = some g → ∃ cs, w.heap[g]? = some (.cells cs 35 (0, 0)) := fun g hg => by
  rcases h.2 with ⟨rfl, _⟩ | ⟨g', cap, cur, rfl, hb', hc, rest⟩
  · cases hg
  · simp [Value.ownBlock] at hg; subst hg; exact ⟨cur, hc⟩
theorem Nums.snoc {w : World} {base : Nat} {v : Value} {xs : List Int} (h : Nums w base v xs) (ty : TypeId) (X : Nat) (x : Int) (hX : Row w X #[.int .u32 x] 35) (hb : base ≤ w.heap.size) (hn : xs.length ≤ 1000000) :
    ∃ v' w', (Builtin.append_ #[124, 124] ty #[v, .slice (some ⟨X, 0, none⟩) 1 1]).run Try.prog w = .ok v' w' ∧ Nums w' base v' (xs ++ [x]) ∧ w.grownBy w' v.ownBlock ∧ (v'.ownBlock = v.ownBlock ∨ v'.ownBlock = some w.heap.size) := by
  obtain ⟨i, hi, hz, hs, hby⟩ := Us.info_parts Us.info35
  obtain ⟨v', w', hr, h2, h3, h4, h5⟩ := run_append_own_at (P := Try.prog) w base 124 ty 35 i _ 1 4 Try.underlying124 hi hz hs hby rfl (by decide) v (xs.map uO).length (Us.flat (xs.map uO)) h ⟨X, 0, none⟩ 1 1 [.int .u32 x] rfl (fun j u hj => by rw [Addr.add_mid, Nat.zero_add, cell_of_row w X j _ _ _ hX, ← hj]; show [Value.int .u32 x].toArray[j]? = _; rw [List.getElem?_toArray]) (by simp [Value.oneCell']) (by unfold maxLen; simp; omega) (by simp; omega) hb
  refine ⟨v', w', hr, ?_, h3, h5⟩
  unfold Nums Us.Own
  rw [List.map_append, Us.flat_append, List.length_append]
  exact h2
def GAt (w : World) (base m n : Nat) (F : Int → Option Value) (G : Int → List Int) : Prop :=
  KMap E44 w m n F ∧ m < base ∧ (∀ x, E44.ok x → (F x = none → G x = []) ∧ ∀ u, F x = some u → Nums w base u (G x) ∧ G x ≠ []) ∧
    ∀ x y u v, E44.ok x → E44.ok y → x ≠ y → F x = some u → F y = some v → u.ownBlock = none ∨ u.ownBlock ≠ v.ownBlock
theorem GAt.made (w : World) : GAt (w.alloc (.map #[] 0)) (w.heap.size + 1) w.heap.size 0 (fun _ => none) (fun _ => []) :=
  ⟨KMap.made E44 w, Nat.lt_succ_self _, fun x _ => ⟨fun _ => rfl, fun u h => by cases h⟩, fun x y u v _ _ _ h => by cases h⟩
theorem GAt.off {B : Nat → Prop} {w w' : World} {base m n : Nat} {F : Int → Option Value} {G : Int → List Int} (h : GAt w base m n F G) (ho : Off B w w') (hm : ¬ B m) (hB : ∀ j, base ≤ j → j < w.heap.size → ¬ B j) : GAt w' base m n F G :=
  ⟨h.1.off ho hm, h.2.1, fun x hx => ⟨(h.2.2.1 x hx).1, fun u hu => by
    have hn := ((h.2.2.1 x hx).2 u hu).1
    exact ⟨hn.off ho (fun b hb => hB b (hn.lt b hb).1 (hn.lt b hb).2), ((h.2.2.1 x hx).2 u hu).2⟩⟩, h.2.2.2⟩
theorem GAt.below {w w' : World} {base m n : Nat} {F : Int → Option Value} {G : Int → List Int} (h : GAt w base m n F G) (hb : Below w.heap.size w w') : GAt w' base m n F G :=
  h.off (B := fun _ => False) (Off.of_below hb) (fun q => q) (fun _ _ _ q => q)
theorem GAt.apart {B : Nat → Prop} {w w' : World} {base m n : Nat} {F : Int → Option Value} {G : Int → List Int} (h : GAt w base m n F G) (ho : Off B w w') (hm : ¬ B m) (hB : ∀ j cs t x, B j → w.heap[j]? = some (.cells cs t x) → False) : GAt w' base m n F G :=
  ⟨h.1.off ho hm, h.2.1, fun x hx => ⟨(h.2.2.1 x hx).1, fun u hu => by
    have hn := ((h.2.2.1 x hx).2 u hu).1
    exact ⟨hn.off ho (fun b hb q => by obtain ⟨cs, hc⟩ := hn.cells b hb; exact hB _ _ _ _ q hc), ((h.2.2.1 x hx).2 u hu).2⟩⟩, h.2.2.2⟩
def gput (G : Int → List Int) (x : Int) (zs : List Int) : Int → List Int := fun y => if y = x then zs else G y
def Back (w : World) (base m n : Nat) (F : Int → Option Value) (G : Int → List Int) (x : Int) (u : Value) : Prop :=
  ∀ (w1 : World) (u' : Value) (zs : List Int), w.grownBy w1 u.ownBlock → Nums w1 base u' zs → zs ≠ [] → (u'.ownBlock = u.ownBlock ∨ ∃ g, u'.ownBlock = some g ∧ w.heap.size ≤ g) →
    ∃ w2 F2, (Instr.mapUpdate 93 (.map (some m)) (E44.v x) u').run Try.prog w1 = .ok () w2 ∧ GAt w2 base m (n + 1) F2 (gput G x zs) ∧ w1.grownBy w2 (some m)
theorem GAt.look {w : World} {base m n : Nat} {F : Int → Option Value} {G : Int → List Int} (h : GAt w base m n F G) (hn : n < maxLen) {x : Int} (hx : E44.ok x) :
    ∃ u, (Instr.lookup 93 (.map (some m)) (E44.v x) false).run Try.prog w = .ok u w ∧ Nums w base u (G x) ∧ Back w base m n F G x u := by
  obtain ⟨hk, hmb, hG, hap⟩ := h
  have hl := hk.look Try.underlying93 (zero124 w) hx
  have core : ∀ u, Nums w base u (G x) → (F x = some u ∨ (F x = none ∧ u.ownBlock = none)) → Back w base m n F G x u := by
    intro u hu hF w1 u' zs hg hu' hzne hloc
    have hub : ∀ b, u.ownBlock = some b → base ≤ b ∧ b < w.heap.size := hu.lt
    have hmr : some m ≠ u.ownBlock := fun q => by have := (hub m q.symm).1; omega
    have hk1 : KMap E44 w1 m n F := hk.kept (hg.block m hk.lt hmr)
    obtain ⟨w2, hrun, hm2, hg2, hs2⟩ := hk1.store Try.underlying93 hn hx u'
    have apart : ∀ y v, E44.ok y → y ≠ x → F y = some v → v.ownBlock = none ∨ v.ownBlock ≠ u.ownBlock := by
      intro y v hy hne hFy
      rcases hF with hF | ⟨_, hF⟩
      · exact hap y x v u hy hx hne hFy hF
      · cases hv : v.ownBlock with
        | none => exact Or.inl rfl
        | some b => right; rw [hF]; exact fun q => by cases q
    refine ⟨w2, kput F x u', hrun, ⟨hm2, hmb, fun y hy => ?_, fun y z a b hy hz hne ha hb => ?_⟩, hg2⟩
    · unfold kput gput
      by_cases e : y = x
      · rw [if_pos e, if_pos e]
        refine ⟨fun q => (by cases q), fun v q => ?_⟩
        cases q
        exact ⟨hu'.kept hg2 (by
          cases hq : u'.ownBlock with
          | none => exact Or.inl rfl
          | some b => right; intro q; cases q; have := (hu'.lt m hq).1; omega), hzne⟩
      · rw [if_neg e, if_neg e]
        refine ⟨(hG y hy).1, fun v q => ?_⟩
        have h0 := ((hG y hy).2 v q).1
        have h1 := h0.kept hg (apart y v hy e q)
        exact ⟨h1.kept hg2 (by
          cases hq : v.ownBlock with
          | none => exact Or.inl rfl
          | some b => right; intro q; cases q; have := (h0.lt m hq).1; omega), ((hG y hy).2 v q).2⟩
    · unfold kput at ha hb
      have key : ∀ y v, E44.ok y → y ≠ x → F y = some v → (v.ownBlock = none ∨ v.ownBlock ≠ u'.ownBlock) ∧ (u'.ownBlock = none ∨ u'.ownBlock ≠ v.ownBlock) := by
        intro y v hy hne hFy
        have h1 := apart y v hy hne hFy
        have h0 := ((hG y hy).2 v hFy).1.lt
        cases hv : v.ownBlock with
        | none =>
          refine ⟨Or.inl rfl, ?_⟩
          cases hu2 : u'.ownBlock with
          | none => exact Or.inl rfl
          | some b => right; intro q; cases q
        | some b =>
          have hb1 := h0 b hv
          rcases hloc with hl | ⟨g, hl, hg3⟩
          · rcases h1 with h1 | h1
            · rw [hv] at h1; cases h1
            · rw [hl, ← hv]; exact ⟨Or.inr h1, Or.inr (fun q => h1 q.symm)⟩
          · rw [hl]
            exact ⟨Or.inr (fun q => by cases q; omega), Or.inr (fun q => by cases q; omega)⟩
      by_cases e : y = x
      · rw [if_pos e] at ha
        cases ha
        have e2 : ¬ z = x := fun q => hne (by rw [e, q])
        rw [if_neg e2] at hb
        exact (key z b hz e2 hb).2
      · rw [if_neg e] at ha
        by_cases e2 : z = x
        · rw [if_pos e2] at hb
          cases hb
          exact (key y a hy e ha).1
        · rw [if_neg e2] at hb
          exact hap y z a b hy hz hne ha hb
  cases hF : F x with
  | none =>
    rw [hF] at hl
    have e0 := (hG x hx).1 hF
    have n0 : Nums w base (.slice none 0 0) (G x) := by rw [e0]; exact Nums.nil _ _
    exact ⟨.slice none 0 0, hl, n0, core _ n0 (Or.inr ⟨hF, rfl⟩)⟩
  | some u =>
    rw [hF] at hl
    have n0 := ((hG x hx).2 u hF).1
    exact ⟨u, hl, n0, core u n0 (Or.inl hF)⟩
end GU
end Go.Proofs.Ytdlllnkcjfpajaa
