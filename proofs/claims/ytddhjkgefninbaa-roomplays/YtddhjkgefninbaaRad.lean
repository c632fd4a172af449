/-
  Proved here: when the document's Add (varveref07) refuses a record.
-/
import Derived.Test.YtddhjkgefninbaaPgr
namespace Go.Proofs.Ytddhjkgefninbaa
open Go.ChangeShapes Go.WideShapes Go.ChangeAt Go.RowKit
set_option linter.unusedVariables false
set_option linter.unusedSimpArgs false
set_option maxRecDepth 20000

theorem Own.snocG {w : World} {base : Nat} {v : Value} {os : List O} (h : Own w base v os) (ty : TypeId) (X : Nat) (p : O) (hX : Row w X p.arr 50) (hb : base ≤ w.heap.size) (hn : os.length ≤ 1000) :
    ∃ v' w', (Builtin.append_ #[31, 31] ty #[v, .slice (some ⟨X, 0, none⟩) 1 1]).run Try.prog w = .ok v' w' ∧ Own w' base v' (os ++ [p]) ∧ w.grownBy w' v.ownBlock := by
  obtain ⟨i, hi, hz, hs, hby⟩ := info_parts info50
  obtain ⟨v', w', hr, h2, h3, h4, h5⟩ := run_append_own_at (P := Try.prog) w base 31 ty 50 i _ 6 32 Try.underlying31 hi hz hs hby rfl (by decide) v os.length (flat os) h ⟨X, 0, none⟩ 1 1 p.cells rfl (fun j u hj => by rw [Addr.add_mid, Nat.zero_add, cell_of_row w X j _ _ _ hX, ← hj]; show p.cells.toArray[j]? = _; rw [List.getElem?_toArray]) (fun u hu => flat_one [p] u (by simpa [flat] using hu)) (by unfold maxLen; omega) (by omega) hb
  refine ⟨v', w', hr, ?_, h3⟩
  unfold Own
  rw [flat_append, List.length_append]
  have e : flat [p] = p.cells := by simp [flat]
  rw [e]
  exact h2
/-- An answer whose error is told. -/
def RAns (w : World) (E : Int) (e : Ending) (w' : World) : Prop := ∃ (l : Int) (oa : Option Addr) (n cap : Nat) (y : Int), e = .returned (.tuple #[.agg #[.int .u64 l, .slice oa n cap], .int .i64 y, .int .i64 E]) ∧ Below w.heap.size w w'
theorem fit_false {os : List O} {o : O} (h : fit os o = false) : may os = false ∨ (may os = true ∧ o.live = false) ∨ (may os = true ∧ o.live = true ∧ 66 < o.delta.size) := by
  unfold fit at h
  cases h1 : may os with
  | false => exact Or.inl rfl
  | true =>
    cases h2 : o.live with
    | false => exact Or.inr (Or.inl ⟨rfl, rfl⟩)
    | true =>
      rw [h1, h2] at h
      refine Or.inr (Or.inr ⟨rfl, rfl, ?_⟩)
      simpa using h
theorem dead_zero {os : List O} (hm : may os = true) {k : Nat} {o : O} (h : os[k]? = some o) (hl : o.live = false) : o = O.zero := by
  have := (may_small hm).2.2.1 o (List.mem_of_getElem? h)
  unfold okO at this
  rw [hl] at this
  simp at this
  exact this.1
set_option maxHeartbeats 4000000 in
theorem radd_bad (lsn : Int) (v : Value) (os : List O) (o : O) (w : World) (ho : Olds w v os) (hF : ∀ x ∈ os, x.Fits) (hf : fit os o = false) :
    Calls Try.prog 23 #[.agg #[.int .u64 lsn, v], .agg o.arr] w fun e w' => RAns w 1 e w' := by
  obtain ⟨oa, cap, rfl, _⟩ := ho.open
  obtain ⟨n, HN⟩ : ∃ n, Hid (os.length = n) := ⟨_, rfl⟩
  rw [HN.out] at ho ⊢
  obtain ⟨r0, r1, r2, ab, hsz⟩ := W0_rows w lsn (.slice oa n cap) o
  have hz := zero33
  have hmy := rmay_any lsn _ os (W0 w lsn (.slice oa n cap) o) (ho.keep ab) hF
  have HB : Hid _ := built33
  rcases fit_false hf with h1 | ⟨h1, h2⟩ | ⟨h1, h2, h3⟩
  all_goals
    rw [h1] at hmy
    go_enter Try.func23, Try.ntmps23
    go_upto_region 1 with fail
    have HW : W0 w lsn (.slice oa n cap) o = ((w.alloc (.cells #[.int .u64 lsn, .slice oa n cap] 33)).alloc (.cells o.arr 50)).alloc (.cells #[.int .u64 0, .slice none 0 0] 33) := rfl
    rw [← HW]
    clear HW
    generalize W0 w lsn (.slice oa n cap) o = w1 at r0 r1 r2 ab hsz hmy ⊢
    have rg := range_two r0
    have tl : Hid (1 = 1) := rfl
    have ts : Hid (1 = 1) := rfl
    go_wp2_with (first
      | (have hh := tl; clear hh tl; refine wpList_load_mid rfl 33 (.tmp 2) rfl w.heap.size 0 rfl [.int .u64 lsn, .slice oa n cap] _ rg Try.underlying33 rfl size33 ?_)
      | (go_at_call 33; refine hmy.mono ?_; clear hmy; rintro e w2 ⟨rfl, b2⟩; have s1 := r1.below b2 r1.lt; have c0 := row_at s1 0 (.bool o.live) rfl; have c5 := row_at s1 5 (.string o.delta) rfl; have s2 := r2.below b2 r2.lt; have B2 := ab.trans (b2.mono ab.size); first | rw [h2] at c0 | skip; first | (have h3' : (o.delta.size : Int) > 66 := by omega) | skip)
      | (refine build_none rfl 33 rfl _ HB.out ?_)
      | (have hh := ts; clear hh ts; refine store_cells rfl 33 (.tmp 4) (.tmp 23) rfl (w.heap.size + 2) #[.int .u64 0, .slice none 0 0] rfl rfl 33 _ s2 2 size33 rfl rfl (by simp [Value.oneCell']) ?_))
    refine bodyPost_ret (v := .tuple #[.agg #[.int .u64 0, .slice none 0 0], .int .i64 0, .int .i64 1]) ?_ rfl ⟨_, _, _, _, _, rfl, below_setRow B2 (by omega) _⟩
    exact ret_cell3 (fn := Try.f23) rfl _ _ (w.heap.size + 2) 33 #[.int .u64 0, .slice none 0 0] _ (.int .i64 0) (.int .i64 1) rfl rfl rfl (s2.set _) Try.underlying33 rfl size33
end Go.Proofs.Ytddhjkgefninbaa
