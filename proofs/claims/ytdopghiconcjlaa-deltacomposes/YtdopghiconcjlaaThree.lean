/-
  Plain facts on three deltas: a text that is a delta is told again from its pieces; which places the pieces of a told text have.
-/
import Derived.Test.YtdopghiconcjlaaTwo
namespace Go.Proofs.Ytdopghiconcjlaa
open Go.ChangeShapes Go.WideShapes Go.ChangeAt Go.RowKit
set_option linter.unusedVariables false
set_option linter.unusedSimpArgs false

/-- Some piece has the place. -/
def Cover (ps : List (Nat × List Int)) (j : Nat) : Prop := ∃ p ∈ ps, p.1 ≤ j ∧ j < p.1 + p.2.length
theorem cover_nil (j : Nat) : ¬ Cover [] j := fun ⟨p, hp, _⟩ => nomatch hp
theorem cover_cons (p : Nat × List Int) (ps : List (Nat × List Int)) (j : Nat) : Cover (p :: ps) j ↔ (p.1 ≤ j ∧ j < p.1 + p.2.length) ∨ Cover ps j := by
  constructor
  · rintro ⟨q, hq, h⟩
    rcases List.mem_cons.1 hq with rfl | hq
    · exact Or.inl h
    · exact Or.inr ⟨q, hq, h⟩
  · rintro (h | ⟨q, hq, h⟩)
    · exact ⟨p, by simp, h⟩
    · exact ⟨q, by simp [hq], h⟩
theorem hasAll_cover : ∀ (ps : List (Nat × List Int)) (H : List Bool) (j : Nat), j < 64 → ((hasAll H ps).getD j false = true ↔ H.getD j false = true ∨ Cover ps j)
  | [], H, j, _ => by
    constructor
    · exact Or.inl
    · rintro (h | h)
      · exact h
      · exact (cover_nil j h).elim
  | p :: ps, H, j, hj => by
    have e : hasAll H (p :: ps) = hasAll (addP H p.1 p.2.length) ps := rfl
    rw [e, hasAll_cover ps _ j hj, addP_at _ _ _ _ hj, cover_cons]
    simp only [Bool.or_eq_true, Bool.and_eq_true, decide_eq_true_eq]
    constructor
    · rintro ((h | h) | h)
      · exact Or.inl h
      · exact Or.inr (Or.inl h)
      · exact Or.inr (Or.inr h)
    · rintro (h | h | h)
      · exact Or.inl (Or.inl h)
      · exact Or.inl (Or.inr h)
      · exact Or.inr h
theorem fs_at (j : Nat) (hj : j < 64) : fs.getD j false = false := by rw [fs_is, bf_at _ _ _ hj]
theorem has_cover (ps : List (Nat × List Int)) (j : Nat) (hj : j < 64) : (hasAll fs ps).getD j false = true ↔ Cover ps j := by
  rw [hasAll_cover ps fs j hj, fs_at j hj]; simp
theorem same_places (H K : List Bool) (hH : H.length = 64) (hK : K.length = 64) (h : ∀ j, j < 64 → (H.getD j false = true ↔ K.getD j false = true)) : H = K := by
  apply List.ext_getElem (by omega)
  intro j h1 h2
  have := h j (by omega)
  simp only [List.getD, List.getElem?_eq_getElem h1, List.getElem?_eq_getElem h2, Option.getD_some] at this
  exact Bool.eq_iff_iff.2 this
theorem runs_cover (y : List Int) (hy : y.length = 64) (H : List Bool) (hl : H.length = 64) : ∀ f a, 64 ≤ a + f → ∀ j, j < 64 → (Cover (runsFrom y H f a) j ↔ a ≤ j ∧ H.getD j false = true)
  | 0, a, h, j, hj => by
    constructor
    · exact fun q => (cover_nil j q).elim
    · rintro ⟨q, _⟩; omega
  | f + 1, a, h, j, hj => by
    rw [runsFrom_succ]
    by_cases ha : a < 64
    · rw [if_pos ha]
      have hle := runAt_le H a hl (by omega)
      have hE := runAt_end H a
      have ih := runs_cover y hy H hl f (a + runAt H a + 1) (by omega) j hj
      by_cases hr : 0 < runAt H a
      · rw [if_pos hr]
        have hp : ((y.drop a).take (runAt H a)).length = runAt H a := by simp; omega
        show Cover ((a, (y.drop a).take (runAt H a)) :: runsFrom y H f (a + runAt H a + 1)) j ↔ _
        rw [cover_cons, ih]
        simp only [hp]
        constructor
        · rintro (h1 | h1)
          · have hA := runAt_at H a (j - a) (by omega)
            rw [show a + (j - a) = j by omega] at hA
            exact ⟨h1.1, hA⟩
          · exact ⟨by omega, h1.2⟩
        · rintro ⟨h1, h2⟩
          by_cases c1 : j < a + runAt H a
          · exact Or.inl ⟨h1, c1⟩
          · by_cases c2 : j = a + runAt H a
            · rw [← c2, h2] at hE; cases hE
            · exact Or.inr ⟨by omega, h2⟩
      · rw [if_neg hr, List.nil_append, ih]
        have hz : runAt H a = 0 := by omega
        rw [hz, Nat.add_zero] at hE ⊢
        constructor
        · rintro ⟨h1, h2⟩; exact ⟨by omega, h2⟩
        · rintro ⟨h1, h2⟩
          by_cases c2 : j = a
          · rw [← c2, h2] at hE; cases hE
          · exact ⟨by omega, h2⟩
    · rw [if_neg ha]
      constructor
      · exact fun q => (cover_nil j q).elim
      · rintro ⟨q, _⟩; omega
/-- Pieces in order, with a place between each two. -/
def Sorted : Nat → List (Nat × List Int) → Prop
  | _, [] => True
  | nx, p :: ps => nx ≤ p.1 ∧ 0 < p.2.length ∧ p.1 + p.2.length ≤ 64 ∧ Sorted (p.1 + p.2.length + 1) ps
def flat : List (Nat × List Int) → List Int
  | [] => []
  | p :: ps => (p.1 : Int) :: (p.2.length : Int) :: p.2 ++ flat ps
theorem parse_flat : ∀ f nx l ps, Bytes l → parse f nx l = some ps → Sorted nx ps ∧ flat ps = l
  | 0, nx, l, ps, _, h => by cases h
  | f + 1, nx, [], ps, _, h => by cases h; exact ⟨trivial, rfl⟩
  | f + 1, nx, [_], ps, _, h => by cases h
  | f + 1, nx, a :: n :: r, ps, hb, h => by
    rw [parse_cons2] at h
    split at h
    · cases h
    · rename_i hc
      have ha := hb a (by simp)
      have hn := hb n (by simp)
      have hr : Bytes r := fun y hy => hb y (by simp [hy])
      cases hq : parse f (a + n + 1).toNat (r.drop n.toNat) with
      | none => rw [hq] at h; cases h
      | some qs =>
        rw [hq] at h
        have h' : ps = (a.toNat, r.take n.toNat) :: qs := by cases h; rfl
        subst h'
        have ih := parse_flat f _ _ qs (fun y hy => hr y (List.mem_of_mem_drop hy)) hq
        have hl : (r.take n.toNat).length = n.toNat := by rw [List.length_take]; omega
        refine ⟨⟨?_, ?_, ?_, ?_⟩, ?_⟩
        · show nx ≤ a.toNat; omega
        · show 0 < (r.take n.toNat).length; rw [hl]; omega
        · show a.toNat + (r.take n.toNat).length ≤ 64; rw [hl]; omega
        · show Sorted (a.toNat + (r.take n.toNat).length + 1) qs
          rw [hl, show a.toNat + n.toNat + 1 = (a + n + 1).toNat by omega]; exact ih.1
        · show ((a.toNat : Int) :: ((r.take n.toNat).length : Int) :: r.take n.toNat ++ flat qs) = _
          rw [hl, ih.2]
          have e1 : ((a.toNat : Nat) : Int) = a := by omega
          have e2 : ((n.toNat : Nat) : Int) = n := by omega
          rw [e1, e2]
          simp
theorem Sorted.mono {ps : List (Nat × List Int)} {nx nx' : Nat} (h : Sorted nx ps) (hp : ∀ p ps', ps = p :: ps' → nx' ≤ p.1) : Sorted nx' ps := by
  cases ps with
  | nil => trivial
  | cons p ps => exact ⟨hp p ps rfl, h.2⟩
theorem Sorted.far : ∀ (ps : List (Nat × List Int)) (nx j : Nat), Sorted nx ps → j < nx → ¬ Cover ps j
  | [], nx, j, _, _ => cover_nil j
  | p :: ps, nx, j, h, hj => by
    rw [cover_cons]
    rintro (q | q)
    · have := h.1; omega
    · exact Sorted.far ps _ j h.2.2.2 (by have := h.1; omega) q
theorem tell_flat (A : List Int) (hA : A.length = 64) (H : List Bool) (hl : H.length = 64) : ∀ f a ps, 64 ≤ a + f → Sorted a ps → (∀ j, a ≤ j → j < 64 → (H.getD j false = true ↔ Cover ps j)) → (∀ p ∈ ps, ∀ i, i < p.2.length → A.getD (p.1 + i) 0 = p.2.getD i 0) → tellFrom A H f a = flat ps
  | 0, a, ps, h, hs, _, _ => by
    cases ps with
    | nil => rfl
    | cons p ps => have := hs.1; have := hs.2.1; have := hs.2.2.1; omega
  | f + 1, a, ps, h, hs, hc, hv => by
    rw [tellFrom_succ]
    by_cases ha : a < 64
    · rw [if_pos ha]
      have hE := runAt_end H a
      have hle := runAt_le H a hl (by omega)
      cases ps with
      | nil =>
        have h0 : runAt H a = 0 := by
          by_cases q : 0 < runAt H a
          · have := runAt_at H a 0 q
            rw [Nat.add_zero] at this
            exact (cover_nil a ((hc a (Nat.le_refl _) ha).1 this)).elim
          · omega
        unfold pieceAt
        rw [h0, if_neg (by omega), List.nil_append, Nat.add_zero]
        exact tell_flat A hA H hl f (a + 1) [] (by omega) trivial (fun j h1 h2 => hc j (by omega) h2) hv
      | cons p ps =>
        obtain ⟨s1, s2, s3, s4⟩ := hs
        by_cases e : a = p.1
        · have hr : runAt H a = p.2.length := by
            have hT : ∀ i, i < p.2.length → H.getD (a + i) false = true := fun i hi => (hc (a + i) (by omega) (by omega)).2 ((cover_cons p ps _).2 (Or.inl (by omega)))
            have hlow : ¬ runAt H a < p.2.length := by
              intro q
              have := hT (runAt H a) q
              rw [this] at hE; cases hE
            have hhigh : ¬ p.2.length < runAt H a := by
              intro q
              have h1 := runAt_at H a p.2.length q
              have h2 := (hc (a + p.2.length) (by omega) (by omega)).1 h1
              rw [cover_cons] at h2
              rcases h2 with h2 | h2
              · omega
              · exact Sorted.far ps _ _ s4 (by omega) h2
            omega
          unfold pieceAt
          rw [hr, if_pos s2]
          have hb : (A.drop a).take p.2.length = p.2 := by
            apply List.ext_getElem
            · simp; omega
            · intro i h1 h2
              have := hv p (by simp) i h2
              rw [← e] at this
              simp only [List.getD, List.getElem?_eq_getElem h2, Option.getD_some] at this
              rw [List.getElem?_eq_getElem (by simp at h1; omega)] at this
              simp only [Option.getD_some] at this
              simp [List.getElem_take, List.getElem_drop, this]
          rw [hb]
          have ih := tell_flat A hA H hl f (a + p.2.length + 1) ps (by omega) (by rw [e]; exact s4) (fun j h1 h2 => by
            rw [hc j (by omega) h2, cover_cons]
            constructor
            · rintro (q | q)
              · omega
              · exact q
            · exact Or.inr) (fun q hq => hv q (by simp [hq]))
          rw [ih]
          show _ = ((p.1 : Int) :: (p.2.length : Int) :: p.2 ++ flat ps)
          rw [e]
        · have h0 : runAt H a = 0 := by
            by_cases q : 0 < runAt H a
            · have := runAt_at H a 0 q
              rw [Nat.add_zero] at this
              exact (Sorted.far (p :: ps) p.1 a ⟨Nat.le_refl _, s2, s3, s4⟩ (by omega) ((hc a (Nat.le_refl _) ha).1 this)).elim
            · omega
          unfold pieceAt
          rw [h0, if_neg (by omega), List.nil_append, Nat.add_zero]
          exact tell_flat A hA H hl f (a + 1) (p :: ps) (by omega) ⟨by omega, s2, s3, s4⟩ (fun j h1 h2 => hc j (by omega) h2) hv
    · rw [if_neg ha]
      cases ps with
      | nil => rfl
      | cons p ps => have := hs.1; have := hs.2.1; have := hs.2.2.1; omega
theorem apply_far : ∀ (ps : List (Nat × List Int)) (b : List Int) (j : Nat), Fits ps → b.length = 64 → ¬ Cover ps j → (applyAll b ps).getD j 0 = b.getD j 0
  | [], b, j, _, _, _ => rfl
  | p :: ps, b, j, hf, hb, hc => by
    have hp := hf p (by simp)
    rw [cover_cons] at hc
    have e : applyAll b (p :: ps) = applyAll (splice b p.1 p.2) ps := rfl
    rw [e, apply_far ps _ j (fun q hq => hf q (by simp [hq])) (by rw [length_splice _ _ _ (by omega)]; exact hb) (fun q => hc (Or.inr q)), splice_getD _ _ _ _ (by omega)]
    by_cases h1 : j < p.1
    · rw [if_pos h1]
    · rw [if_neg h1, if_neg (fun q => hc (Or.inl ⟨by omega, q⟩))]
theorem apply_sorted : ∀ (ps : List (Nat × List Int)) (nx : Nat) (b : List Int), Sorted nx ps → Fits ps → b.length = 64 → ∀ p ∈ ps, ∀ i, i < p.2.length → (applyAll b ps).getD (p.1 + i) 0 = p.2.getD i 0
  | [], nx, b, _, _, _, p, hp, _, _ => nomatch hp
  | q :: ps, nx, b, hs, hf, hb, p, hp, i, hi => by
    have hq := hf q (by simp)
    have hl : (splice b q.1 q.2).length = 64 := by rw [length_splice _ _ _ (by omega)]; exact hb
    have e : applyAll b (q :: ps) = applyAll (splice b q.1 q.2) ps := rfl
    rw [e]
    rcases List.mem_cons.1 hp with rfl | hp
    · rw [apply_far ps _ _ (fun q hq => hf q (by simp [hq])) hl (Sorted.far ps _ _ hs.2.2.2 (by omega)), splice_getD _ _ _ _ (by omega), if_neg (by omega), if_pos (by omega), show p.1 + i - p.1 = i by omega]
    · exact apply_sorted ps _ _ hs.2.2.2 (fun q hq => hf q (by simp [hq])) hl p hp i hi
/-- The text of pieces. -/
def cmp (ps : List (Nat × List Int)) : ByteArray := strOfNums (tell (applyAll (zs 64) ps) (hasAll fs ps))
theorem str_nums (s : ByteArray) : strOfNums (nums s) = s := by
  obtain ⟨⟨l⟩⟩ := s
  simp only [strOfNums, nums, List.map_map]
  congr 2
  apply List.ext_getElem (by simp)
  intro j h1 h2
  simp
/-- A text that is a delta is told again from its pieces. -/
theorem cmp_self (s : ByteArray) (ps : List (Nat × List Int)) (h : pieces s = some ps) : cmp ps = s := by
  obtain ⟨hs, hfl⟩ := parse_flat _ _ _ _ (nums_bytes s) h
  have hf := (pieces_ok s ps h).1
  have hA := applyAll_length (zs 64) (zs_length _) ps hf
  have ht : tell (applyAll (zs 64) ps) (hasAll fs ps) = flat ps :=
    tell_flat _ hA _ (hasAll_length fs fs_length ps) 64 0 ps (by omega) hs (fun j _ hj => has_cover ps j hj) (apply_sorted ps 0 (zs 64) hs hf (zs_length _))
  unfold cmp
  rw [ht, hfl, str_nums]
/-- The pieces of a text of pieces: what they make, and which places they have. -/
theorem cmp_back (ps : List (Nat × List Int)) (hf : Fits ps) (hy : BytesP ps) : ∃ rs, pieces (cmp ps) = some rs ∧ (∀ b, b.length = 64 → applyAll b rs = applyAll b ps) ∧ (∀ j, j < 64 → (Cover rs j ↔ Cover ps j)) := by
  have hA := applyAll_length (zs 64) (zs_length _) ps hf
  have hl := hasAll_length fs fs_length ps
  have hp := pieces_tell _ hA (applyAll_bytes ps _ (zs_bytes 64) hy) _ hl
  refine ⟨_, hp, ?_, ?_⟩
  · intro b hb
    obtain ⟨rs, h1, h2⟩ := composed_back ps hf hy b hb
    rw [hp] at h1
    cases h1; exact h2
  · intro j hj
    rw [runs_cover _ hA _ hl 64 0 (by omega) j hj, has_cover ps j hj]
    exact ⟨fun q => q.2, fun q => ⟨by omega, q⟩⟩
theorem cover_append (p q : List (Nat × List Int)) (j : Nat) : Cover (p ++ q) j ↔ Cover p j ∨ Cover q j := by
  constructor
  · rintro ⟨x, hx, h⟩
    rcases List.mem_append.1 hx with hx | hx
    · exact Or.inl ⟨x, hx, h⟩
    · exact Or.inr ⟨x, hx, h⟩
  · rintro (⟨x, hx, h⟩ | ⟨x, hx, h⟩)
    · exact ⟨x, by simp [hx], h⟩
    · exact ⟨x, by simp [hx], h⟩
theorem cmp_congr (ps qs : List (Nat × List Int)) (ha : applyAll (zs 64) ps = applyAll (zs 64) qs) (hc : ∀ j, j < 64 → (Cover ps j ↔ Cover qs j)) : cmp ps = cmp qs := by
  have : hasAll fs ps = hasAll fs qs := same_places _ _ (hasAll_length fs fs_length _) (hasAll_length fs fs_length _) (fun j hj => by rw [has_cover ps j hj, has_cover qs j hj]; exact hc j hj)
  unfold cmp
  rw [ha, this]
/-- Of three it makes no difference which two come first. -/
theorem cmp_three (p q r : List (Nat × List Int)) (fp : Fits p) (yp : BytesP p) (fq : Fits q) (yq : BytesP q) (fr : Fits r) (yr : BytesP r) :
    ∃ rs1 rs2, pieces (cmp (p ++ q)) = some rs1 ∧ pieces (cmp (q ++ r)) = some rs2 ∧ cmp (rs1 ++ r) = cmp (p ++ rs2) := by
  obtain ⟨rs1, h1, a1, c1⟩ := cmp_back (p ++ q) (fp.both fq) (yp.both yq)
  obtain ⟨rs2, h2, a2, c2⟩ := cmp_back (q ++ r) (fq.both fr) (yq.both yr)
  refine ⟨rs1, rs2, h1, h2, ?_⟩
  apply cmp_congr
  · rw [applyAll_append, a1 _ (zs_length _), applyAll_append (zs 64) p rs2, a2 _ (applyAll_length _ (zs_length _) p fp), applyAll_append, applyAll_append]
  · intro j hj
    rw [cover_append, cover_append, c1 j hj, c2 j hj, cover_append, cover_append]
    constructor
    · rintro ((h | h) | h)
      · exact Or.inl h
      · exact Or.inr (Or.inl h)
      · exact Or.inr (Or.inr h)
    · rintro (h | h | h)
      · exact Or.inl (Or.inl h)
      · exact Or.inl (Or.inr h)
      · exact Or.inr h
theorem cmp_short (ps : List (Nat × List Int)) (hf : Fits ps) : (cmp ps).size ≤ maxLen := by
  have hs := strOfNums_size (tell (applyAll (zs 64) ps) (hasAll fs ps))
  have := compose_short (applyAll (zs 64) ps) (hasAll fs ps) (applyAll_length _ (zs_length _) _ hf) (hasAll_length fs fs_length _)
  unfold cmp
  rw [hs]; unfold maxLen; omega
theorem composed_cmp (d e : ByteArray) (p q : List (Nat × List Int)) (hp : pieces d = some p) (hq : pieces e = some q) : composed d e = .tuple #[.string (cmp (p ++ q)), .int .i64 0] := by
  unfold composed; rw [hp, hq]; rfl
end Go.Proofs.Ytdopghiconcjlaa
