/-
  The document's disk as it lies in memory: what was written and lasts, what was written since, what fails; whether an operation is done.
-/
import Derived.Test.YtkgmhliocfbdfaaRcl
import Derived.BigQuiet
import Derived.WalkSmall
namespace Go.Proofs.Ytkgmhliocfbdfaa
open Go.ChangeShapes Go.WideShapes Go.ChangeAt Go.RowKit
set_option linter.unusedVariables false
set_option linter.unusedSimpArgs false

/-- The document's disk. -/
structure RD where
  n : Nat
  sure : List (Int × Int × List Int)
  pend : List (Int × Int × List Int)
  fails : List Int
  fuse : Int
  ops : Int
  down : Bool
def rdcells (R : RD) (vs vp vf : Value) : Array Value := #[.int .i64 R.n, vs, vp, vf, .int .i64 R.fuse, .int .i64 R.ops, .bool R.down]
/-- The blocks of such a disk. -/
def rfoot (r : Nat) (vs vp vf : Value) (j : Nat) : Prop := j = r ∨ vs.ownBlock = some j ∨ vp.ownBlock = some j ∨ vf.ownBlock = some j
def okW (q : Int × Int × List Int) : Prop := 0 ≤ q.2.1 ∧ q.2.1 < 4 ∧ Sec q.2.2
structure RDAt (w : World) (r : Nat) (R : RD) (vs vp vf : Value) (N : Nat) : Prop where
  row : Row w r (rdcells R vs vp vf) 30
  sure : w.ownsRow 0 69 66 vs R.sure.length (pcells R.sure)
  pend : w.ownsRow 0 69 66 vp R.pend.length (pcells R.pend)
  fails : w.ownsRow 0 3 1 vf R.fails.length (R.fails.map (Value.int .i64))
  sp : ∀ k, vs.ownBlock = some k → vp.ownBlock ≠ some k
  sf : ∀ k, vs.ownBlock = some k → vf.ownBlock ≠ some k
  pf : ∀ k, vp.ownBlock = some k → vf.ownBlock ≠ some k
  sr : vs.ownBlock ≠ some r
  pr : vp.ownBlock ≠ some r
  fr : vf.ownBlock ≠ some r
  oks : ∀ q ∈ R.sure, okW q
  okp : ∀ q ∈ R.pend, okW q
  bound : R.sure.length + R.pend.length ≤ N
  big : N < 1000000000
  fbig : R.fails.length ≤ 140737488355328
  opsn : 0 ≤ R.ops
  fusew : Wf R.fuse
theorem RDAt.lt {w : World} {r : Nat} {R : RD} {vs vp vf : Value} {N : Nat} (h : RDAt w r R vs vp vf N) {j : Nat} (hj : rfoot r vs vp vf j) : j < w.heap.size := by
  rcases hj with rfl | e | e | e
  · exact h.row.lt
  · exact (h.sure.lt j e).2
  · exact (h.pend.lt j e).2
  · exact (h.fails.lt j e).2
theorem own_off {F : Nat → Prop} {w w' : World} {base : Nat} {e : TypeId} {size : Nat} {v : Value} {n : Nat} {xs : List Value} (h : w.ownsRow base e size v n xs) (ho : Off F w w') (hF : ∀ k, v.ownBlock = some k → ¬ F k) : w'.ownsRow base e size v n xs :=
  ownsRow_kept h fun k e hl => ho.block k hl (hF k e)
theorem own_form {w : World} {base : Nat} {e : TypeId} {s : Nat} {v : Value} {n : Nat} {xs : List Value} (h : w.ownsRow base e s v n xs) : ∃ oa cap, v = .slice oa n cap := by
  rcases h.2 with ⟨rfl, rfl⟩ | ⟨g, cap, cur, rfl, _⟩
  · exact ⟨none, 0, rfl⟩
  · exact ⟨_, cap, rfl⟩
theorem RDAt.off {F : Nat → Prop} {w w' : World} {r : Nat} {R : RD} {vs vp vf : Value} {N : Nat} (h : RDAt w r R vs vp vf N) (ho : Off F w w') (hF : ∀ k, rfoot r vs vp vf k → ¬ F k) : RDAt w' r R vs vp vf N :=
  { h with
    row := h.row.off ho (hF _ (Or.inl rfl))
    sure := own_off h.sure ho fun k e => hF k (Or.inr (Or.inl e))
    pend := own_off h.pend ho fun k e => hF k (Or.inr (Or.inr (Or.inl e)))
    fails := own_off h.fails ho fun k e => hF k (Or.inr (Or.inr (Or.inr e))) }
theorem RDAt.below {w w' : World} {r : Nat} {R : RD} {vs vp vf : Value} {N : Nat} (h : RDAt w r R vs vp vf N) (hb : Below w.heap.size w w') : RDAt w' r R vs vp vf N :=
  h.off (F := fun _ => False) (Off.of_below hb) fun _ _ q => q
/-- A plain field has turned. -/
theorem RDAt.upd {w w' : World} {r : Nat} {R R' : RD} {vs vp vf : Value} {N : Nat} (h : RDAt w r R vs vp vf N) (ho : Off (· = r) w w') (hr : Row w' r (rdcells R' vs vp vf) 30) (h1 : R'.sure = R.sure) (h2 : R'.pend = R.pend) (h3 : R'.fails = R.fails) (h4 : 0 ≤ R'.ops) (h5 : Wf R'.fuse) : RDAt w' r R' vs vp vf N :=
  { h with
    row := hr
    sure := by rw [h1]; exact own_off h.sure ho fun k e q => h.sr (q ▸ e)
    pend := by rw [h2]; exact own_off h.pend ho fun k e q => h.pr (q ▸ e)
    fails := by rw [h3]; exact own_off h.fails ho fun k e q => h.fr (q ▸ e)
    oks := by rw [h1]; exact h.oks
    okp := by rw [h2]; exact h.okp
    bound := by rw [h1, h2]; exact h.bound
    fbig := by rw [h3]; exact h.fbig
    opsn := h4
    fusew := h5 }
/-- What counting an operation makes of it. -/
def rcount (R : RD) : Int × RD := if R.ops + 1 = R.fuse then (4, { R with ops := R.ops + 1, down := true }) else if R.ops + 1 ∈ R.fails then (3, { R with ops := R.ops + 1 }) else (0, { R with ops := R.ops + 1 })
/-- A step, and where the parts lie behind it. -/
def RStep (w : World) (r : Nat) (vs vp vf : Value) (R' : RD) (N' : Nat) (w' : World) : Prop :=
  ∃ vs' vp' vf', RDAt w' r R' vs' vp' vf' N' ∧ Off (rfoot r vs vp vf) w w' ∧ ∀ j, rfoot r vs' vp' vf' j → rfoot r vs vp vf j ∨ w.heap.size ≤ j
theorem fails_at {w : World} {r : Nat} {R : RD} {vs vp vf : Value} {N : Nat} (h : RDAt w r R vs vp vf N) : ∃ oa cap, vf = .slice oa R.fails.length cap ∧ ∀ (j : Nat), j < R.fails.length → ∃ A : Addr, oa = some A ∧ w.cell? (A.add j) = some (.int .i64 (R.fails.getD j 0)) := by
  obtain ⟨oa, cap, e⟩ := own_form h.fails
  refine ⟨oa, cap, e, fun j hj => ?_⟩
  rcases h.fails.2 with ⟨_, q⟩ | ⟨g, cap', cur, q, hb, hr, _, _, hs, ht⟩
  · omega
  · rw [e] at q
    simp only [Value.slice.injEq] at q
    obtain ⟨rfl, _, rfl⟩ := q
    refine ⟨_, rfl, ?_⟩
    rw [Addr.add_mid, Nat.zero_add]
    refine row_at (cs := cur) (t := 3) hr j _ ?_
    have : (R.fails.map (Value.int .i64))[j]? = some (.int .i64 (R.fails.getD j 0)) := by simp [List.getD, hj]
    rw [← ht, List.getElem?_take, if_pos (by omega)] at this
    simpa using this
set_option maxHeartbeats 1000000 in
theorem rop_any {w : World} {r : Nat} {R : RD} {vs vp vf : Value} {N : Nat} (h : RDAt w r R vs vp vf N) (ho : R.ops < 9223372036854775806) :
    Calls Try.prog 32 #[.pointer (some ⟨r, 0, none⟩)] w fun e w' => e = .returned (.int .i64 (rcount R).1) ∧ RDAt w' r (rcount R).2 vs vp vf N ∧ Off (· = r) w w' := by
  obtain ⟨E, HE⟩ : ∃ E, Hid ((rcount R).1 = E) := ⟨_, rfl⟩
  obtain ⟨R', HR⟩ : ∃ R', Hid ((rcount R).2 = R') := ⟨_, rfl⟩
  rw [HE.out, HR.out]
  have c5 := row_at h.row 5 (.int .i64 R.ops) rfl
  have f5 := row_frozen h.row 5
  have hopn := h.opsn
  have hw1 : IntKind.i64.wrap (R.ops + 1) = R.ops + 1 := by rw [IntKind.wrap_i64]; omega
  have h1 : RDAt (w.setCell ⟨r, 5, none⟩ (.int .i64 (R.ops + 1))) r { R with ops := R.ops + 1 } vs vp vf N := h.upd (Off.of_setCell _ _ _ rfl) (row_set h.row 5 _) rfl rfl rfl (by show 0 ≤ R.ops + 1; omega) h.fusew
  have o1 : Off (· = r) w (w.setCell ⟨r, 5, none⟩ (.int .i64 (R.ops + 1))) := Off.of_setCell _ _ _ rfl
  obtain ⟨oa, cap, hvf, hfc⟩ := fails_at h1
  go_enter Try.func32, Try.ntmps32
  go_upto_region 2 with fail
  clear c5 f5
  generalize w.setCell ⟨r, 5, none⟩ (.int .i64 (R.ops + 1)) = w1 at h1 o1 hfc ⊢
  have c4 := row_at h1.row 4 (.int .i64 R.fuse) rfl
  have c5 := row_at h1.row 5 (.int .i64 (R.ops + 1)) rfl
  by_cases hf : R.ops + 1 = R.fuse
  · have hE : E = 4 := by rw [← HE.out]; unfold rcount; rw [if_pos hf]
    have hR : R' = { R with ops := R.ops + 1, down := true } := by rw [← HR.out]; unfold rcount; rw [if_pos hf]
    subst hE hR
    have hg1 : decide (R.fuse ≥ 1) = true := by simp; omega
    have hg2 : R.fuse ≥ 1 := by omega
    have hg3 : (1 : Int) ≤ R.fuse := by omega
    have hq : (R.ops + 1 == R.fuse) = true := by simpa using hf
    have hfb : Hid (R.ops + 1 = R.fuse) := hf
    have d6 := row_at h1.row 6 (.bool R.down) rfl
    have f6 := row_frozen h1.row 6
    have h2 : RDAt (w1.setCell ⟨r, 6, none⟩ (.bool true)) r { R with ops := R.ops + 1, down := true } vs vp vf N := h1.upd (Off.of_setCell _ _ _ rfl) (row_set h1.row 6 _) rfl rfl rfl (by show 0 ≤ R.ops + 1; omega) h.fusew
    have HH2 : Hid _ := h2
    clear hf h2 hvf hfc
    go_quiet (fail)
    go_wp2_with fail
    go_ret
    refine ⟨rfl, ?_, ?_⟩
    · exact RDAt.off HH2.out (F := fun _ => False) (⟨rfl, rfl, rfl, Nat.le_refl _, fun _ _ _ => rfl⟩ : Off (fun _ => False) (w1.setCell ⟨r, 6, none⟩ (.bool true)) ((w1.drewN nq).setCell ⟨r, 6, none⟩ (.bool true))) (fun _ _ q => q)
    · exact o1.trans ⟨rfl, rfl, rfl, by simp [World.setCell], fun k hk hn => Below.heap_setCell _ _ _ _ hn⟩ (fun _ q => Or.inl q)
  · have HNF : Hid (¬ R.ops + 1 = R.fuse) := hf
    obtain ⟨m, Hm⟩ : ∃ m, Hid (R.fails.length = m) := ⟨_, rfl⟩
    have hvf2 : vf = .slice oa m cap := by rw [← Hm.out]; exact hvf
    subst hvf2
    have hm : m ≤ 140737488355328 := by rw [← Hm.out]; exact h.fbig
    clear hfc hvf h hw1 ho
    have hq : (R.ops + 1 == R.fuse) = false := by simpa using hf
    by_cases hg : R.fuse ≥ 1
    · have hg1 : decide (R.fuse ≥ 1) = true := by simpa using hg
      have hg3 : (1 : Int) ≤ R.fuse := by omega
      clear hf
      go_quiet (fail)
      go_wp2_with fail
      go_loopw [3] (fun i wr => ∃ (j : Nat), i = .int .i64 j ∧ j ≤ m ∧ Hid (∀ t, t < j → ¬ R.fails.getD t 0 = R.ops + 1) ∧ RDAt wr r { R with ops := R.ops + 1 } vs vp (.slice oa m cap) N ∧ Off (· = r) w wr) (fun i _ => m - (intOf i).toNat)
      case atStart => exact ⟨0, rfl, by omega, fun t ht => by omega, h1.below (below_drewN (Below.refl _ _) _), o1.trans (Off.of_below (F := fun _ => False) (below_drewN (Below.refl _ _) _)) (fun _ q => q.elim)⟩
      case round =>
        clear c4 c5 h1 o1
        obtain ⟨j, rfl, hj, HJ, D, ro⟩ := hrel
        have c3 := row_at D.row 3 (.slice oa m cap) rfl
        have c5 := row_at D.row 5 (.int .i64 (R.ops + 1)) rfl
        by_cases hjm : j < m
        · have hjm' : (j : Int) < (m : Int) := by omega
          obtain ⟨oa2, cap2, hv2, hfc2⟩ := fails_at D
          simp only [Value.slice.injEq] at hv2
          obtain ⟨rfl, _, rfl⟩ := hv2
          obtain ⟨A, rfl, hcj⟩ := hfc2 j (by show j < R.fails.length; rw [Hm.out]; exact hjm)
          clear hfc2
          obtain ⟨x, HX⟩ : ∃ x, Hid (R.fails.getD j 0 = x) := ⟨_, rfl⟩
          have hcj2 : wr.cell? (A.add j) = some (.int .i64 x) := by rw [← HX.out]; exact hcj
          clear hcj
          by_cases hx : x = R.ops + 1
          · have hmem : R.ops + 1 ∈ R.fails := by
              have hl : j < R.fails.length := by rw [Hm.out]; exact hjm
              have e := HX.out
              simp only [List.getD, List.getElem?_eq_getElem hl, Option.getD_some] at e
              rw [← hx, ← e]; exact List.getElem_mem hl
            have hE : E = 3 := by rw [← HE.out]; unfold rcount; rw [if_neg HNF.out, if_pos hmem]
            have hR : R' = { R with ops := R.ops + 1 } := by rw [← HR.out]; unfold rcount; rw [if_neg HNF.out, if_pos hmem]
            have HEE : Hid _ := And.intro hE hR
            have hxq : (x == R.ops + 1) = true := by simpa using hx
            have HXX : Hid _ := hx
            clear hx hmem hE hR
            go_upto_region 8 with fail
            go_quiet (fail)
            go_wp2_with fail
            go_ret
            rw [HEE.out.1, HEE.out.2]
            exact ⟨rfl, D.below (below_drewN (Below.refl _ _) _), ro.trans (Off.of_below (F := fun _ => False) (below_drewN (Below.refl _ _) _)) (fun _ q => q.elim)⟩
          · have hxq : (x == R.ops + 1) = false := by simpa using hx
            go_upto_region 8 with fail
            go_quiet (fail)
            go_wp2_with fail
            go_roundw
            case rel =>
              refine ⟨j + 1, by go_num, by omega, fun t ht => ?_, D.below (below_drewN (Below.refl _ _) _), ro.trans (Off.of_below (F := fun _ => False) (below_drewN (Below.refl _ _) _)) (fun _ q => q.elim)⟩
              by_cases e : t = j
              · rw [e, HX.out]; exact hx
              · exact HJ.out t (by omega)
            case measure => simp [intOf]; omega
        · have hjm' : ¬ (j : Int) < (m : Int) := by omega
          have hmem : ¬ R.ops + 1 ∈ R.fails := fun q => by
            obtain ⟨t, ht, e⟩ := List.getElem_of_mem q
            refine HJ.out t (by rw [Hm.out] at ht; omega) ?_
            simp only [List.getD, List.getElem?_eq_getElem ht, Option.getD_some]; exact e
          have hE : E = 0 := by rw [← HE.out]; unfold rcount; rw [if_neg HNF.out, if_neg hmem]
          have hR : R' = { R with ops := R.ops + 1 } := by rw [← HR.out]; unfold rcount; rw [if_neg HNF.out, if_neg hmem]
          have HEE : Hid _ := And.intro hE hR
          clear hmem hE hR
          go_wp2_with fail
          go_ret
          rw [HEE.out.1, HEE.out.2]
          exact ⟨rfl, D, ro⟩
    · have hg1 : decide (R.fuse ≥ 1) = false := by simpa using hg
      have hg4 : decide ((1 : Int) ≤ R.fuse) = false := by simpa using hg
      clear hf
      go_quiet (fail)
      go_wp2_with fail
      go_loopw [3] (fun i wr => ∃ (j : Nat), i = .int .i64 j ∧ j ≤ m ∧ Hid (∀ t, t < j → ¬ R.fails.getD t 0 = R.ops + 1) ∧ RDAt wr r { R with ops := R.ops + 1 } vs vp (.slice oa m cap) N ∧ Off (· = r) w wr) (fun i _ => m - (intOf i).toNat)
      case atStart => exact ⟨0, rfl, by omega, fun t ht => by omega, h1.below (below_drewN (Below.refl _ _) _), o1.trans (Off.of_below (F := fun _ => False) (below_drewN (Below.refl _ _) _)) (fun _ q => q.elim)⟩
      case round =>
        clear c4 c5 h1 o1
        obtain ⟨j, rfl, hj, HJ, D, ro⟩ := hrel
        have c3 := row_at D.row 3 (.slice oa m cap) rfl
        have c5 := row_at D.row 5 (.int .i64 (R.ops + 1)) rfl
        by_cases hjm : j < m
        · have hjm' : (j : Int) < (m : Int) := by omega
          obtain ⟨oa2, cap2, hv2, hfc2⟩ := fails_at D
          simp only [Value.slice.injEq] at hv2
          obtain ⟨rfl, _, rfl⟩ := hv2
          obtain ⟨A, rfl, hcj⟩ := hfc2 j (by show j < R.fails.length; rw [Hm.out]; exact hjm)
          clear hfc2
          obtain ⟨x, HX⟩ : ∃ x, Hid (R.fails.getD j 0 = x) := ⟨_, rfl⟩
          have hcj2 : wr.cell? (A.add j) = some (.int .i64 x) := by rw [← HX.out]; exact hcj
          clear hcj
          by_cases hx : x = R.ops + 1
          · have hmem : R.ops + 1 ∈ R.fails := by
              have hl : j < R.fails.length := by rw [Hm.out]; exact hjm
              have e := HX.out
              simp only [List.getD, List.getElem?_eq_getElem hl, Option.getD_some] at e
              rw [← hx, ← e]; exact List.getElem_mem hl
            have hE : E = 3 := by rw [← HE.out]; unfold rcount; rw [if_neg HNF.out, if_pos hmem]
            have hR : R' = { R with ops := R.ops + 1 } := by rw [← HR.out]; unfold rcount; rw [if_neg HNF.out, if_pos hmem]
            have HEE : Hid _ := And.intro hE hR
            have hxq : (x == R.ops + 1) = true := by simpa using hx
            have HXX : Hid _ := hx
            clear hx hmem hE hR
            go_upto_region 8 with fail
            go_quiet (fail)
            go_wp2_with fail
            go_ret
            rw [HEE.out.1, HEE.out.2]
            exact ⟨rfl, D.below (below_drewN (Below.refl _ _) _), ro.trans (Off.of_below (F := fun _ => False) (below_drewN (Below.refl _ _) _)) (fun _ q => q.elim)⟩
          · have hxq : (x == R.ops + 1) = false := by simpa using hx
            go_upto_region 8 with fail
            go_quiet (fail)
            go_wp2_with fail
            go_roundw
            case rel =>
              refine ⟨j + 1, by go_num, by omega, fun t ht => ?_, D.below (below_drewN (Below.refl _ _) _), ro.trans (Off.of_below (F := fun _ => False) (below_drewN (Below.refl _ _) _)) (fun _ q => q.elim)⟩
              by_cases e : t = j
              · rw [e, HX.out]; exact hx
              · exact HJ.out t (by omega)
            case measure => simp [intOf]; omega
        · have hjm' : ¬ (j : Int) < (m : Int) := by omega
          have hmem : ¬ R.ops + 1 ∈ R.fails := fun q => by
            obtain ⟨t, ht, e⟩ := List.getElem_of_mem q
            refine HJ.out t (by rw [Hm.out] at ht; omega) ?_
            simp only [List.getD, List.getElem?_eq_getElem ht, Option.getD_some]; exact e
          have hE : E = 0 := by rw [← HE.out]; unfold rcount; rw [if_neg HNF.out, if_neg hmem]
          have hR : R' = { R with ops := R.ops + 1 } := by rw [← HR.out]; unfold rcount; rw [if_neg HNF.out, if_neg hmem]
          have HEE : Hid _ := And.intro hE hR
          clear hmem hE hR
          go_wp2_with fail
          go_ret
          rw [HEE.out.1, HEE.out.2]
          exact ⟨rfl, D, ro⟩
end Go.Proofs.Ytkgmhliocfbdfaa
