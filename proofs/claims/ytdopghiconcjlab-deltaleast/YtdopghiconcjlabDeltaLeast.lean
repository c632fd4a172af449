/-
  Proved: for all bodies of 64 bytes the Go function varvelaw03.DeltaLeast returns true and leaves its arguments as they were; no condition.
-/
import Derived.Test.YtdopghiconcjlabDAwake
import Derived.Test.YtdopghiconcjlabDShut
import Derived.Deep.QuietTactic
import Derived.BigQuiet
namespace Go.Proofs.Ytdopghiconcjlab.deltaLeast
open Go.ChangeShapes Go.WideShapes Go.ChangeAt Go.RowKit
open Go.ChangeMaps (open_string shut_string)
set_option linter.unusedVariables false
set_option linter.unusedSimpArgs false

theorem own : ownKnob Try.prog.godebug = none := by kernel_rfl

def flat : List (Nat × List Int) → List Int
  | [] => []
  | p :: ps => (p.1 : Int) :: (p.2.length : Int) :: p.2 ++ flat ps
/-- Each piece begins and ends with a byte that differs, three places or more behind the one ahead of it. -/
def Good (x y : List Int) : Int → List (Nat × List Int) → Prop
  | _, [] => True
  | e, p :: ps => e + 3 ≤ p.1 ∧ 0 < p.2.length ∧ p.1 + p.2.length ≤ 64 ∧ dif x y p.1 = true ∧ dif x y (p.1 + p.2.length - 1) = true ∧ Good x y ((p.1 : Int) + p.2.length) ps
theorem tell_flat (b : List Int) (hb : b.length = 64) (H : List Bool) (hl : H.length = 64) : ∀ f a, tellFrom b H f a = flat (runsFrom b H f a)
  | 0, a => rfl
  | f + 1, a => by
    rw [tellFrom_succ, runsFrom_succ]
    split
    · rename_i ha
      have hle := runAt_le H a hl (by omega)
      have hp : ((b.drop a).take (runAt H a)).length = runAt H a := by simp; omega
      unfold pieceAt
      split
      · rw [tell_flat b hb H hl f _]
        show _ = ((a : Int) :: (((b.drop a).take (runAt H a)).length : Int) :: (b.drop a).take (runAt H a) ++ flat (runsFrom b H f (a + runAt H a + 1)))
        simp [hp]
      · rw [List.nil_append, List.nil_append]; exact tell_flat b hb H hl f _
    · rfl
theorem run_begins (x y : List Int) (a : Nat) (ha : a < 64) (h : (hasD x y 64).getD a false = true) (hb : a = 0 ∨ (hasD x y 64).getD (a - 1) false = false) : dif x y a = true := by
  obtain ⟨p, q, h1, h2, h3, h4, h5, h6⟩ := (hasD_iff x y 64 (Nat.le_refl _) a ha).1 h
  by_cases e : p = a
  · subst e; exact h5
  · rcases hb with hb | hb
    · omega
    · have := (hasD_iff x y 64 (Nat.le_refl _) (a - 1) (by omega)).2 ⟨p, q, by omega, by omega, h3, h4, h5, h6⟩
      rw [this] at hb; cases hb
theorem run_ends (x y : List Int) (a : Nat) (ha : a < 64) (h : (hasD x y 64).getD a false = true) (hb : (hasD x y 64).getD (a + 1) false = false) : dif x y a = true := by
  obtain ⟨p, q, h1, h2, h3, h4, h5, h6⟩ := (hasD_iff x y 64 (Nat.le_refl _) a ha).1 h
  by_cases e : q = a
  · subst e; exact h6
  · have := (hasD_iff x y 64 (Nat.le_refl _) (a + 1) (by omega)).2 ⟨p, q, by omega, by omega, h3, h4, h5, h6⟩
    rw [this] at hb; cases hb
theorem good_runs (x y b : List Int) (hb : b.length = 64) : ∀ f a (e : Int), (a = 0 ∨ (hasD x y 64).getD (a - 1) false = false) → (∀ j, a ≤ j → (hasD x y 64).getD j false = true → e + 3 ≤ (j : Int)) → Good x y e (runsFrom b (hasD x y 64) f a)
  | 0, a, e, _, _ => trivial
  | f + 1, a, e, h0, he => by
    have hl := hasD_length x y 64
    have hG := hasD_gap x y
    have hB := run_begins x y
    have hN := run_ends x y
    have ih := good_runs x y b hb f
    generalize hasD x y 64 = H at hl hG hB hN h0 he ih
    rw [runsFrom_succ]
    by_cases ha : a < 64
    · rw [if_pos ha]
      have hle := runAt_le H a hl (by omega)
      have hE := runAt_end H a
      by_cases hr : 0 < runAt H a
      · rw [if_pos hr]
        have hp : ((b.drop a).take (runAt H a)).length = runAt H a := by simp; omega
        have h1 := runAt_at H a 0 hr
        rw [Nat.add_zero] at h1
        have hA := runAt_at H a (runAt H a - 1) (by omega)
        have hA2 : H.getD (a + runAt H a - 1) false = true := by rw [show a + runAt H a - 1 = a + (runAt H a - 1) by omega]; exact hA
        have hE2 : H.getD (a + runAt H a - 1 + 1) false = false := by rw [show a + runAt H a - 1 + 1 = a + runAt H a by omega]; exact hE
        have hg := hG (a + runAt H a - 1) hA2 hE2
        rw [show a + runAt H a - 1 + 2 = a + runAt H a + 1 by omega, show a + runAt H a - 1 + 3 = a + runAt H a + 2 by omega] at hg
        refine ⟨he a (Nat.le_refl _) h1, ?_, ?_, hB a ha h1 h0, ?_, ?_⟩
        · show 0 < ((b.drop a).take (runAt H a)).length; omega
        · show a + ((b.drop a).take (runAt H a)).length ≤ 64; omega
        · show dif x y (a + ((b.drop a).take (runAt H a)).length - 1) = true
          rw [hp]; exact hN _ (by omega) hA2 hE2
        · show Good x y ((a : Int) + (((b.drop a).take (runAt H a)).length : Int)) (runsFrom b H f (a + runAt H a + 1))
          rw [hp]
          refine ih _ _ (Or.inr (by rw [show a + runAt H a + 1 - 1 = a + runAt H a by omega]; exact hE)) ?_
          intro j hj hjt
          by_cases c1 : j = a + runAt H a + 1
          · rw [c1, hg.1] at hjt; cases hjt
          · by_cases c2 : j = a + runAt H a + 2
            · rw [c2, hg.2] at hjt; cases hjt
            · omega
      · rw [if_neg hr, List.nil_append]
        have hz : runAt H a = 0 := by omega
        rw [hz, Nat.add_zero] at hE ⊢
        exact ih _ _ (Or.inr (by rw [show a + 1 - 1 = a by omega]; exact hE)) (fun j hj => he j (by omega))
    · rw [if_neg ha]; trivial
theorem flat_cons (p : Nat × List Int) (ps : List (Nat × List Int)) : flat (p :: ps) = (p.1 : Int) :: (p.2.length : Int) :: (p.2 ++ flat ps) := rfl
theorem drop_at (l : List Int) (i : Nat) (a n : Int) (r : List Int) (h : l.drop i = a :: n :: r) : l.getD i 0 = a ∧ l.getD (i + 1) 0 = n ∧ l.length = i + 2 + r.length ∧ l.drop (i + 2) = r := by
  have hl : (l.drop i).length = (a :: n :: r).length := by rw [h]
  simp at hl
  have e0 := congrArg (·[0]?) h
  have e1 := congrArg (·[1]?) h
  simp only [List.getElem?_drop, List.getElem?_cons_zero, List.getElem?_cons_succ, Nat.add_zero] at e0 e1
  refine ⟨by simp [List.getD, e0], by simp [List.getD, e1], by omega, ?_⟩
  rw [← List.drop_drop, h]; rfl

set_option maxHeartbeats 2000000 in
theorem walk (x y : List Int) (hx : x.length = 64) (yx : Bytes x) (hy : y.length = 64) (yy : Bytes y) (w : World) :
    Calls Try.prog 3 #[.agg (bs x), .agg (bs y)] w fun e w' => e = .returned (.bool true) ∧ Below w.heap.size w w' := by
  have hsh := make_short x y hy
  have hsz := strOfNums_size (tell y (hasD x y 64))
  have hfl : nums (strOfNums (tell y (hasD x y 64))) = flat (runsFrom y (hasD x y 64) 64 0) := by
    unfold tell
    rw [nums_str _ (tellFrom_bytes y yy _ (hasD_length x y 64) 64 0)]; exact tell_flat y hy _ (hasD_length x y 64) 64 0
  have hgd : Good x y (-9) (runsFrom y (hasD x y 64) 64 0) := good_runs x y y hy 64 0 (-9) (Or.inl rfl) (fun j _ _ => by omega)
  rw [← hsz] at hsh
  obtain ⟨D, HD⟩ : ∃ D, Hid (strOfNums (tell y (hasD x y 64)) = D) := ⟨_, rfl⟩
  obtain ⟨P0, HP0⟩ : ∃ P, Hid (runsFrom y (hasD x y 64) 64 0 = P) := ⟨_, rfl⟩
  rw [HD.out] at hfl hsh
  rw [HP0.out] at hfl hgd
  clear hsz
  have a0 : Row ((w.alloc (.cells (bs x) 23)).alloc (.cells (bs y) 23)) w.heap.size (bs x) 23 := (Row.new _ _ _).alloc _
  have a1 : Row ((w.alloc (.cells (bs x) 23)).alloc (.cells (bs y) 23)) (w.heap.size + 1) (bs y) 23 := by have := Row.new (w.alloc (.cells (bs x) 23)) (bs y) 23; simpa using this
  have ab : Below w.heap.size w ((w.alloc (.cells (bs x) 23)).alloc (.cells (bs y) 23)) := ((Below.refl _ _).alloc (Nat.le_refl _) _).alloc (by simp) _
  have HFL := show Hid _ from hfl
  clear hfl
  go_enter Try.func3, Try.ntmps3
  go_wp2_with (first
    | (refine load_row rfl 23 (.tmp 2) rfl w.heap.size rfl 23 (bs x) a0 64 5 Try.underlying23 size23 (by rw [bs_size, hx]) ?_)
    | (refine load_row rfl 23 (.tmp 3) rfl (w.heap.size + 1) rfl 23 (bs y) a1 64 5 Try.underlying23 size23 (by rw [bs_size, hy]) ?_)
    | (go_at_call 9; refine (make_any x y hx hy _).mono ?_; rw [HD.out]; rintro e w1 ⟨rfl, h1⟩
       have b0 := a0.below h1 a0.lt
       have b1 := a1.below h1 a1.lt
       have bb := ab.trans (h1.mono (Nat.le_of_lt a0.lt))
       clear a0 a1 ab h1))
  go_loopw [6, 7] (fun e i wr => ∃ (k : Nat) (z : Int) (ps : List (Nat × List Int)), e = .int .i64 z ∧ i = .int .i64 k ∧ k ≤ D.size ∧ -9 ≤ z ∧ z ≤ 64 ∧ (nums D).drop k = flat ps ∧ Good x y z ps ∧ Row wr w.heap.size (bs x) 23 ∧ Row wr (w.heap.size + 1) (bs y) 23 ∧ Below w.heap.size w wr) (fun _ i _ => D.size - (intOf i).toNat)
  case atStart => exact ⟨0, -9, P0, rfl, rfl, Nat.zero_le _, by omega, by omega, HFL.out, hgd, b0, b1, bb⟩
  case round =>
    clear b0 b1 bb
    obtain ⟨k, z, ps, rfl, rfl, hk, hz1, hz2, hdr, hgo, r0, r1, rb⟩ := hrel
    have hnl := nums_length D
    cases ps with
    | nil =>
      have hkD : D.size ≤ k := by
        have := congrArg List.length hdr
        simp [flat] at this; omega
      have hlt : ¬ (k : Int) < (D.size : Int) := by omega
      clear hdr hgo
      go_wp2_with (go_at_call 10; refine (awake_any _).mono ?_; rintro e w2 ⟨rfl, h2⟩)
      go_ret
      exact ⟨rfl, rb.trans (h2.mono (Nat.le_of_lt r0.lt))⟩
    | cons p ps =>
      obtain ⟨g1, g2, g3, g4, g5, g6⟩ := hgo
      rw [flat_cons] at hdr
      obtain ⟨d1, d2, d3, d4⟩ := drop_at _ _ _ _ _ hdr
      obtain ⟨a, t⟩ := p
      simp only at g1 g2 g3 g4 g5 g6 d1 d2 d3 d4
      obtain ⟨m, hm⟩ : ∃ m, t.length = m + 1 := ⟨t.length - 1, by omega⟩
      rw [hm] at g2 g3 g5 g6 d2
      rw [List.length_append, hm] at d3
      have d5 : (nums D).drop (k + 2 + (m + 1)) = flat ps := by
        rw [← List.drop_drop, d4, ← hm, List.drop_left' rfl]
      have hk1 : k + 1 < D.size := by omega
      have hk0 : k < D.size := by omega
      rw [nums_at D k hk0] at d1
      rw [nums_at D (k + 1) hk1] at d2
      have e1 : (D[k]'hk0).toNat = a := by omega
      have e2 : (D[k + 1]'hk1).toNat = m + 1 := by omega
      have n1 : ¬ x.getD a 0 = y.getD a 0 := by
        intro q; unfold dif at g4; rw [decide_eq_true q] at g4; cases g4
      have n2 : ¬ x.getD (a + m) 0 = y.getD (a + m) 0 := by
        intro q; rw [show a + (m + 1) - 1 = a + m by omega] at g5; unfold dif at g5; rw [decide_eq_true q] at g5; cases g5
      have cx := row_cell (w := wr.drew) (t := 23) r0 a (by omega)
      have cy := row_cell (w := wr.drew) (t := 23) r1 a (by omega)
      have cx2 := row_cell (w := wr.drew) (t := 23) r0 (a + m) (by omega)
      have cy2 := row_cell (w := wr.drew) (t := 23) r1 (a + m) (by omega)
      generalize x.getD a 0 = X1 at n1 cx
      generalize y.getD a 0 = Y1 at n1 cy
      generalize x.getD (a + m) 0 = X2 at n2 cx2
      generalize y.getD (a + m) 0 = Y2 at n2 cy2
      have n1' : (X1 == Y1) = false := by simpa using n1
      have n2' : (X2 == Y2) = false := by simpa using n2
      have c1 : (k : Int) < (D.size : Int) := by omega
      have c2 : ¬ (D.size : Int) - (k : Int) < 3 := by omega
      have c3 : ¬ ((m : Int) + 1) < 1 := by omega
      have c4 : ¬ 64 < ((m : Int) + 1) := by omega
      have c5 : ¬ 64 - ((m : Int) + 1) < (a : Int) := by omega
      have c6 : ¬ (a : Int) - z < 3 := by omega
      have DR := show Hid _ from d5
      have GO := show Hid _ from g6
      clear d1 d2 d4 d5 g4 g5 g6 hdr
      go_wp2
      go_region
      all_goals
        go_wp2
        have hidx : (a : Int) + ((m : Int) + 1) - 1 = (a : Int) + (m : Int) := by omega
        have v1 : IntKind.i64.wrap ((a : Int) + ((m : Int) + 1)) = (a : Int) + ((m : Int) + 1) := by rw [IntKind.wrap_i64]; omega
        have v2 : IntKind.i64.wrap ((a : Int) + (m : Int)) = (a : Int) + (m : Int) := by rw [IntKind.wrap_i64]; omega
        have v3 : IntKind.i64.wrap (64 - ((m : Int) + 1)) = 64 - ((m : Int) + 1) := by rw [IntKind.wrap_i64]; omega
        have v4 : IntKind.i64.wrap ((a : Int) - z) = (a : Int) - z := by rw [IntKind.wrap_i64]; omega
        have q1 : decide ((m : Int) + 1 < 1) = false := by simp; omega
        have q2 : decide (64 < (m : Int) + 1) = false := by simp; omega
        have q3 : decide (64 - ((m : Int) + 1) < (a : Int)) = false := by simp; omega
        have q4 : decide ((a : Int) - z < 3) = false := by simp; omega
        have cx' : wr.cell? ⟨w.heap.size, a, none⟩ = some (.int .u8 X1) := cx
        have cy' : wr.cell? ⟨w.heap.size + 1, a, none⟩ = some (.int .u8 Y1) := cy
        have cx2' : wr.cell? ⟨w.heap.size, a + m, none⟩ = some (.int .u8 X2) := cx2
        have cy2' : wr.cell? ⟨w.heap.size + 1, a + m, none⟩ = some (.int .u8 Y2) := cy2
        have i1 : (a : Int) < 64 := by omega
        have i2 : (a : Int) + (m : Int) < 64 := by omega
        have i3 : a < 64 := by omega
        have i4 : a + m < 64 := by omega
        go_quiet (fail)
        go_wp2
        go_roundw
        all_goals first
          | exact ⟨k + (2 + (m + 1)), (a : Int) + ((m : Int) + 1), ps, rfl, by go_num, by omega, by omega, by omega, by rw [show k + (2 + (m + 1)) = k + 2 + (m + 1) by omega]; exact DR.out, by have := GO.out; simpa using this, r0, r1, ⟨rb.os, rb.tape, rb.output, rb.size, rb.block⟩⟩
          | (simp [intOf]; omega)

set_option maxRecDepth 100000 in
theorem lifted (os : Os) (started : os.Started) (H : Type) (enc : TypeId × Value → H) :
    ReturnsInHanded {} Try.checked os 3 .any (Rows.deltaLeastSpec.pre6 enc Try.prog Try.f3 Rows.deltaLeastRow.domain false) (Rows.deltaLeastSpec.post enc Try.prog Try.f3 false true false false) := by
  refine returnsInHanded_of_change (C := Try.checked) own started (by kernel_rfl) Try.func3
    (ChangeSpec.witness6 (enc := enc) (C := Try.checked) false ⟨#[], #[.agg (bs (zs 64)), .agg (bs (zs 64))], []⟩ 8 (by kernel_rfl) (by kernel_rfl) (by kernel_rfl) (by kernel_rfl)) ?_
  intro W base args ds gs before hval0 hW hcnd _
  have hval : ∀ (j : Nat) t v, Try.f3.params[j]? = some t → args[j]? = some v → Value.okWide Try.prog W .any base t v := hval0
  have hW' := hW
  obtain ⟨p, q, hA0, hV, rfl, hfz, hnd⟩ := hW
  have hA : DataW.TrodAll enc Try.prog W 0 (fun _ => true) true Try.f3.params.toList args.toList ds p := hA0
  rw [Try.params3] at hA hval
  obtain ⟨v0, vs0, d0, ds0, p0, q0, hargs, rfl, rfl, h0, r0⟩ := trodAll_cons hA
  obtain ⟨v1, vs1, d1, ds1, p1, q1, rfl, rfl, rfl, h1, r1⟩ := trodAll_cons r0
  obtain ⟨rfl, rfl, rfl⟩ := trodAll_nil r1
  obtain rfl : args = #[v0, v1] := by cases args; simp_all
  obtain ⟨rfl, rfl⟩ := trodVars_none hV
  obtain ⟨a0, rfl, rfl, rfl, l0, w0⟩ := open_bytes Try.underlying23 Try.underlying5 cells5 (by kernel_rfl) (hval 0 23 v0 rfl rfl) h0
  obtain ⟨a1, rfl, rfl, rfl, l1, w1⟩ := open_bytes Try.underlying23 Try.underlying5 cells5 (by kernel_rfl) (hval 1 23 v1 rfl rfl) h1
  clear hA0 hval0
  simp only [List.append_nil] at hW'
  refine (walk a0 a1 l0 w0 l1 w1 W).mono fun e W' ⟨he, hg⟩ => ?_
  subst he
  exact ⟨_, rfl, ⟨_, _, _, [], [], [], hW', (trodAll_cons_mk (shut_bool Try.underlying4 _) trodAll_mk0), (trodAll_cons_mk (shut_bytes Try.underlying23 Try.underlying5 cells5 (by kernel_rfl) l0 w0) (trodAll_cons_mk (shut_bytes Try.underlying23 Try.underlying5 cells5 (by kernel_rfl) l1 w1) trodAll_mk0)), rfl,
    hg.frame _, fun h => by cases h⟩⟩

theorem over : Rows.deltaLeastRow.holds Try.pinned (OpenSpec.ofChange Rows.deltaLeastSpec) :=
  OpenClaim.holds_of_wide 3 Try.f3 rfl rfl rfl rfl rfl rfl rfl ⟨rfl, rfl, rfl, rfl, rfl⟩ rfl rfl rfl rfl rfl (by kernel_rfl) Try.func3 (by kernel_rfl)
    (of_decide_eq_true (by kernel_rfl)) (by unfold Func.isWrapper; first | (rw [if_pos (by decide +kernel)]; kernel_rfl) | (rw [if_neg (by decide +kernel)]; exact ⟨rfl, rfl⟩))
    (fun os started H enc _ => lifted os started H enc)

/-- The statement. -/
theorem proved : Rows.DeltaLeastSaid :=
  over
#print axioms proved
end Go.Proofs.Ytdopghiconcjlab.deltaLeast
