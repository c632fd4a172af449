/-
  Plain facts on two deltas: their pieces fit and are bytes; what pieces make of a body place by place; the composed text makes what both make.
-/
import Derived.Test.YtdopghiconcjlaaCompose
namespace Go.Proofs.Ytdopghiconcjlaa
open Go.ChangeShapes Go.WideShapes Go.ChangeAt Go.RowKit
set_option linter.unusedVariables false
set_option linter.unusedSimpArgs false

def BytesP (ps : List (Nat × List Int)) : Prop := ∀ p ∈ ps, Bytes p.2
theorem parse_ok : ∀ f nx l ps, Bytes l → parse f nx l = some ps → Fits ps ∧ BytesP ps
  | 0, nx, l, ps, _, h => by cases h
  | f + 1, nx, [], ps, _, h => by cases h; exact ⟨(fun p hp => nomatch hp), (fun p hp => nomatch hp)⟩
  | f + 1, nx, [_], ps, _, h => by cases h
  | f + 1, nx, a :: n :: r, ps, hb, h => by
    rw [parse_cons2] at h
    split at h
    · cases h
    · rename_i hc
      have ha := hb a (by simp)
      have hn := hb n (by simp)
      have hr : Bytes r := fun y hy => hb y (by simp [hy])
      cases hq : parse f (a + n + 1).toNat (r.drop n.toNat) with
      | none => rw [hq] at h; cases h
      | some qs =>
        rw [hq] at h
        have h' : ps = (a.toNat, r.take n.toNat) :: qs := by cases h; rfl
        subst h'
        have ih := parse_ok f _ _ qs (fun y hy => hr y (List.mem_of_mem_drop hy)) hq
        refine ⟨fun p hp => ?_, fun p hp => ?_⟩
        · rcases List.mem_cons.1 hp with rfl | hp
          · simp only [List.length_take]; omega
          · exact ih.1 p hp
        · rcases List.mem_cons.1 hp with rfl | hp
          · exact fun y hy => hr y (List.mem_of_mem_take hy)
          · exact ih.2 p hp
theorem pieces_ok (s : ByteArray) (ps : List (Nat × List Int)) (h : pieces s = some ps) : Fits ps ∧ BytesP ps := parse_ok _ _ _ _ (nums_bytes s) h
theorem splice_bytes (b : List Int) (o : Nat) (m : List Int) (hb : Bytes b) (hm : Bytes m) : Bytes (splice b o m) := by
  intro y hy
  unfold splice at hy
  rcases List.mem_append.1 hy with h | h
  · exact hb y (List.mem_of_mem_take h)
  · rcases List.mem_append.1 h with h | h
    · exact hm y h
    · exact hb y (List.mem_of_mem_drop h)
theorem applyAll_bytes : ∀ (ps : List (Nat × List Int)) (b : List Int), Bytes b → BytesP ps → Bytes (applyAll b ps)
  | [], b, hb, _ => hb
  | p :: ps, b, hb, h => applyAll_bytes ps (splice b p.1 p.2) (splice_bytes b p.1 p.2 hb (h p (by simp))) (fun q hq => h q (by simp [hq]))
theorem Fits.both {p q : List (Nat × List Int)} (hp : Fits p) (hq : Fits q) : Fits (p ++ q) := by
  intro x hx
  rcases List.mem_append.1 hx with h | h
  · exact hp x h
  · exact hq x h
theorem BytesP.both {p q : List (Nat × List Int)} (hp : BytesP p) (hq : BytesP q) : BytesP (p ++ q) := by
  intro x hx
  rcases List.mem_append.1 hx with h | h
  · exact hp x h
  · exact hq x h
theorem zs_bytes (n : Nat) : Bytes (zs n) := by
  intro y hy
  have := List.eq_of_mem_replicate hy
  omega
/-- Pieces laid into two bodies that are alike at some places: place by place. -/
theorem apply_like : ∀ (ps : List (Nat × List Int)) (b z b0 : List Int) (H : List Bool), Fits ps → b.length = 64 → z.length = 64 →
    (∀ j, j < 64 → b.getD j 0 = if H.getD j false = true then z.getD j 0 else b0.getD j 0) →
    ∀ j, j < 64 → (applyAll b ps).getD j 0 = if (hasAll H ps).getD j false = true then (applyAll z ps).getD j 0 else b0.getD j 0
  | [], b, z, b0, H, _, _, _, h => h
  | p :: ps, b, z, b0, H, hf, hb, hz, h => by
    have hp := hf p (by simp)
    refine apply_like ps (splice b p.1 p.2) (splice z p.1 p.2) b0 (addP H p.1 p.2.length) (fun q hq => hf q (by simp [hq])) (by rw [length_splice _ _ _ (by omega)]; exact hb) (by rw [length_splice _ _ _ (by omega)]; exact hz) ?_
    intro j hj
    rw [splice_getD _ _ _ _ (by omega), splice_getD _ _ _ _ (by omega), addP_at _ _ _ _ hj]
    by_cases h1 : j < p.1
    · have e : (decide (p.1 ≤ j) && decide (j < p.1 + p.2.length)) = false := by simp; omega
      rw [if_pos h1, if_pos h1, e, Bool.or_false]; exact h j hj
    · rw [if_neg h1, if_neg h1]
      by_cases h2 : j < p.1 + p.2.length
      · have e : (decide (p.1 ≤ j) && decide (j < p.1 + p.2.length)) = true := by simp; omega
        rw [if_pos h2, if_pos h2, e, Bool.or_true, if_pos rfl]
      · have e : (decide (p.1 ≤ j) && decide (j < p.1 + p.2.length)) = false := by simp; omega
        rw [if_neg h2, if_neg h2, e, Bool.or_false]; exact h j hj
theorem apply_has (ps : List (Nat × List Int)) (hf : Fits ps) (b : List Int) (hb : b.length = 64) (j : Nat) (hj : j < 64) :
    (applyAll b ps).getD j 0 = if (hasAll fs ps).getD j false = true then (applyAll (zs 64) ps).getD j 0 else b.getD j 0 := by
  refine apply_like ps b (zs 64) b fs hf hb (zs_length _) ?_ j hj
  intro j hj
  have : fs.getD j false = false := by rw [fs_is, bf_at _ _ _ hj]
  rw [this, if_neg (by simp)]
/-- The text composed of pieces is a delta, and makes of a body what the pieces make. -/
theorem composed_back (ps : List (Nat × List Int)) (hf : Fits ps) (hy : BytesP ps) (b : List Int) (hb : b.length = 64) :
    ∃ rs, pieces (strOfNums (tell (applyAll (zs 64) ps) (hasAll fs ps))) = some rs ∧ applyAll b rs = applyAll b ps := by
  have hA := applyAll_length (zs 64) (zs_length _) ps hf
  have hl := hasAll_length fs fs_length ps
  refine ⟨_, pieces_tell _ hA (applyAll_bytes ps _ (zs_bytes 64) hy) _ hl, ?_⟩
  apply same_list _ _ (applyAll_length b hb _ (runs_fits _ _ hl 64 0)) (applyAll_length b hb ps hf)
  intro j hj
  rw [runs_apply _ hA _ hl 64 0 b hb (by omega) j hj, apply_has ps hf b hb j hj]
  by_cases h : (hasAll fs ps).getD j false = true
  · rw [if_pos ⟨by omega, h⟩, if_pos h]
  · rw [if_neg (fun q => h q.2), if_neg h]
theorem applyAll_append (b : List Int) (p q : List (Nat × List Int)) : applyAll b (p ++ q) = applyAll (applyAll b p) q := by
  unfold applyAll; rw [List.foldl_append]
theorem applied_is (b : List Int) (hb : b.length = 64) (s : ByteArray) : ∃ Y g, applied b s = .tuple #[.agg (bs Y), .int .i64 g] ∧ Y.length = 64 := by
  unfold applied
  cases h : pieces s with
  | none => exact ⟨_, _, rfl, zs_length _⟩
  | some ps => exact ⟨_, _, rfl, applyAll_length b hb ps (pieces_ok s ps h).1⟩
theorem compose_short (b : List Int) (H : List Bool) (hb : b.length = 64) (hl : H.length = 64) : (tell b H).length ≤ 3 * 65 := by
  have : ∀ f a, (tellFrom b H f a).length ≤ 3 * (65 - a) := by
    intro f
    induction f with
    | zero => intro a; simp [tellFrom]
    | succ f ih =>
      intro a
      rw [tellFrom_succ]
      split
      · rename_i ha
        have hle := runAt_le H a hl (by omega)
        have h1 := pieceAt_length b H a
        have h2 := ih (a + runAt H a + 1)
        rw [List.length_append]; omega
      · simp
  exact this 64 0
end Go.Proofs.Ytdopghiconcjlaa
