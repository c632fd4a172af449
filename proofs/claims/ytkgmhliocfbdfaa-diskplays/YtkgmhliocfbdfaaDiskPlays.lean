/-
  DiskPlays (P5.1 to P5.5): for every size and every list of calls, each answer of a disk is the document's, and so is all that is told of it; and the fixed run comes out.
-/
import Derived.Test.YtkgmhliocfbdfaaRel
namespace Go.Proofs.Ytkgmhliocfbdfaa.diskPlays
open Go.ChangeShapes Go.WideShapes Go.ChangeAt Go.RowKit
open Go.Deep
set_option linter.unusedVariables false
set_option linter.unusedSimpArgs false

theorem own : ownKnob Try.prog.godebug = none := by kernel_rfl

theorem yields_neq {P : Program} {ops : Array Oper} {S : World → Prop} {o : Oper} {a : Act} (hw : Region.wanted o (yielded ops a.tmps) = true) (ty ty' : TypeId) (x y : Operand) (ho : o.op = .binOp .neq ty x y ty')
    (xs ys : Array Value) (hx : a.eval x = .agg xs) (hy : a.eval y = .agg ys) (hm : P.eqGuardType P.depth ty = false) (b : Bool) (hr : ∀ w, (Op.equalIn 10000 ty (.agg xs) (.agg ys)).run P w = .ok b w) : YieldsIf P ops S o (.bool (!b)) a := by
  refine Or.inl ⟨hw, fun w hS => ?_⟩
  unfold execOp
  simp only [ho, hx, hy, Sem.run_bind, run_eqGuard_agg w .neq ty x y xs ys hm, Result.andThen_ok, run_neq_struct, hr, Sem.run_pure]
/-- A disk and the document's one, in one memory. -/
structure PS (w0 w' : World) (g r : Nat) (d : Dsk) (L : Loc) (R : RD) (vs vp vf : Value) (N : Nat) : Prop where
  D : DAt w' g d L N
  C : RDAt w' r R vs vp vf N
  ap : ∀ j, foot g L j → ¬ rfoot r vs vp vf j
  lo : ∀ j, foot g L j → w0.heap.size ≤ j
  lor : ∀ j, rfoot r vs vp vf j → w0.heap.size ≤ j
  b : Below w0.heap.size w0 w'
theorem ps_below {w0 w' w'' : World} {g r : Nat} {d : Dsk} {L : Loc} {R : RD} {vs vp vf : Value} {N : Nat} (h : PS w0 w' g r d L R vs vp vf N) (hb : Below w'.heap.size w' w'') : PS w0 w'' g r d L R vs vp vf N :=
  ⟨h.D.below hb, h.C.below hb, h.ap, h.lo, h.lor, h.b.trans (hb.mono h.b.size)⟩
theorem rd_grow {w : World} {r : Nat} {R : RD} {vs vp vf : Value} {N N' : Nat} (q : RDAt w r R vs vp vf N) (h : N ≤ N') (hb : N' < 1000000000) : RDAt w r R vs vp vf N' := { q with bound := by have := q.bound; omega, big := hb }
/-- The disk has done something. -/
theorem ps_act {w0 w' w'' : World} {g r : Nat} {d d' : Dsk} {L : Loc} {R : RD} {vs vp vf : Value} {N : Nat} (h : PS w0 w' g r d L R vs vp vf N) (hc : Crashed w' g d' L (N + 4) w'') (hN : N + 4 < 1000000000) : ∃ L', PS w0 w'' g r d' L' R vs vp vf (N + 4) := by
  obtain ⟨L', D, O, F⟩ := hc
  refine ⟨L', D, rd_grow (h.C.off O (fun k hk q => h.ap k q hk)) (by omega) hN, fun j hj q => ?_, fun j hj => ?_, h.lor, h.b.trans (O.below h.b.size h.lo)⟩
  · rcases F j hj with c | c
    · exact h.ap j c q
    · have := h.C.lt q; omega
  · rcases F j hj with c | c
    · exact h.lo j c
    · exact Nat.le_trans h.b.size c
/-- The document's disk has done something. -/
theorem ps_ref {w0 w' w'' : World} {g r : Nat} {d : Dsk} {L : Loc} {R R' : RD} {vs vp vf : Value} {N : Nat} (h : PS w0 w' g r d L R vs vp vf N) (hc : RStep w' r vs vp vf R' N w'') : ∃ vs' vp' vf', PS w0 w'' g r d L R' vs' vp' vf' N ∧ Off (rfoot r vs vp vf) w' w'' := by
  obtain ⟨vs', vp', vf', C, O, F⟩ := hc
  refine ⟨vs', vp', vf', ⟨h.D.off O (fun k hk q => h.ap k hk q), C, fun j hj q => ?_, h.lo, fun j hj => ?_, h.b.trans (O.below h.b.size h.lor)⟩, O⟩
  · rcases F j q with c | c
    · exact h.ap j hj c
    · have := h.D.lt hj; omega
  · rcases F j hj with c | c
    · exact h.lor j c
    · exact Nat.le_trans h.b.size c
theorem step_plain {w w' : World} {r : Nat} {R' : RD} {vs vp vf : Value} {N : Nat} (C : RDAt w' r R' vs vp vf N) (O : Off (· = r) w w') : RStep w r vs vp vf R' N w' := ⟨vs, vp, vf, C, O.mono (fun j q => Or.inl (Or.inl q)), fun j q => Or.inl q⟩
/-- What the round's comparisons hold by. -/
structure Cmp (w0 : World) (g r : Nat) (d : Dsk) (L : Loc) (R : RD) (vs vp vf : Value) (N O x9 y11 : Nat) (X : List Int) (ocs : Array Value) (w' : World) : Prop where
  p : PS w0 w' g r d L R vs vp vf N
  o : Row w' O ocs 33
  x : Row w' x9 (bs X) 35
  y : Row w' y11 (bs X) 34
theorem Cmp.below {w0 : World} {g r : Nat} {d : Dsk} {L : Loc} {R : RD} {vs vp vf : Value} {N O x9 y11 : Nat} {X : List Int} {ocs : Array Value} {w' w'' : World} (h : Cmp w0 g r d L R vs vp vf N O x9 y11 X ocs w') (hb : Below w'.heap.size w' w'') : Cmp w0 g r d L R vs vp vf N O x9 y11 X ocs w'' :=
  ⟨ps_below h.p hb, h.o.below hb h.o.lt, h.x.below hb h.x.lt, h.y.below hb h.y.lt⟩
def Met2 (w0 : World) (g r : Nat) (d : Dsk) (L : Loc) (R : RD) (N O x9 y11 : Nat) (X : List Int) (ocs : Array Value) (w' : World) : Prop := ∃ vs vp vf, Cmp w0 g r d L R vs vp vf N O x9 y11 X ocs w'
theorem rnew_at (w : World) (n : Nat) : RDAt (w.alloc (.cells #[.int .i64 n, .slice none 0 0, .slice none 0 0, .slice none 0 0, .int .i64 0, .int .i64 0, .bool false] 30)) w.heap.size ⟨n, [], [], [], 0, 0, false⟩ (.slice none 0 0) (.slice none 0 0) (.slice none 0 0) 0 :=
  ⟨Row.new _ _ _, World.ownsRow_nil _ _ _ _, World.ownsRow_nil _ _ _ _, World.ownsRow_nil _ _ _ _, (fun k e => by cases e), (fun k e => by cases e), (fun k e => by cases e), (fun e => by cases e), (fun e => by cases e), (fun e => by cases e), (fun q hq => by cases hq), (fun q hq => by cases hq), Nat.le_refl _, by omega, by simp, by show (0 : Int) ≤ 0; omega, wf_of (by show -9223372036854775808 ≤ (0 : Int); omega) (by show (0 : Int) ≤ _; omega)⟩
theorem new_rel (n : Nat) : Rel (Dsk.new n) ⟨n, [], [], [], 0, 0, false⟩ := ⟨rfl, rfl, rfl, fun i => by simp [Dsk.new], rfl, rfl, rfl⟩
set_option maxHeartbeats 8000000 in
set_option maxRecDepth 20000 in
theorem walk (w : World) (nn : Int) (v : Value) (cs : List Call) (wf : (Lit.int .i64 nn).wf = true) (hs : Script w v cs) :
    Calls Try.prog 3 #[.int .i64 nn, v] w fun e w' => e = .returned (.bool true) ∧ Below w.heap.size w w' := by
  have hz35 := zero35
  have hz34 := zero34
  have hz33 := zero33
  by_cases hin : 1 ≤ nn ∧ nn ≤ 2048
  · obtain ⟨n, rfl⟩ : ∃ n : Nat, nn = n := ⟨nn.toNat, by omega⟩
    have hn1 : 1 ≤ n := by omega
    have hn2 : n ≤ 2048 := by omega
    have i1 : ¬ (n : Int) < 1 := by omega
    have i2 : ¬ (n : Int) > 2048 := by omega
    have hnew := new_some n hn1 hn2 w
    obtain ⟨oa, cap0, rfl, hlen, hcs⟩ := hs.open
    obtain ⟨m, HN⟩ : ∃ m, Hid (cs.length = m) := ⟨_, rfl⟩
    rw [HN.out] at hcs hlen ⊢
    have HCS : Hid _ := hcs
    have HNF : Hid (∀ j, foot (w.heap.size + 2) (Loc.new w.heap.size) j → w.heap.size ≤ j) := fun j hj => new_foot _ _ hj
    generalize Loc.new w.heap.size = L0 at hnew HNF
    obtain ⟨g, HG⟩ : ∃ g, Hid (w.heap.size + 2 = g) := ⟨_, rfl⟩
    rw [HG.out] at hnew HNF
    clear hcs hs hin
    go_enter Try.func3, Try.ntmps3
    go_upto_block 0 with (first
      | (go_at_call 9; refine hnew.mono ?_; rintro e w1 ⟨he, D1, B1⟩; obtain rfl := he))
    have R1 := rnew_at w1 n
    have bw : Below w1.heap.size w1 (w1.alloc (.cells #[.int .i64 n, .slice none 0 0, .slice none 0 0, .slice none 0 0, .int .i64 0, .int .i64 0, .bool false] 30)) := (Below.refl _ _).alloc (Nat.le_refl _) _
    have hap : ∀ j, foot g L0 j → ¬ rfoot w1.heap.size (.slice none 0 0) (.slice none 0 0) (.slice none 0 0) j := fun j hj q => by
      have := D1.lt hj
      rcases q with q | q | q | q
      · omega
      · cases q
      · cases q
      · cases q
    have hlr : ∀ j, rfoot w1.heap.size (.slice none 0 0) (.slice none 0 0) (.slice none 0 0) j → w.heap.size ≤ j := fun j q => by
      rcases q with q | q | q | q
      · have := B1.size; omega
      · cases q
      · cases q
      · cases q
    have P0 : PS w (w1.alloc (.cells #[.int .i64 n, .slice none 0 0, .slice none 0 0, .slice none 0 0, .int .i64 0, .int .i64 0, .bool false] 30)) g w1.heap.size (Dsk.new n) L0 ⟨n, [], [], [], 0, 0, false⟩ (.slice none 0 0) (.slice none 0 0) (.slice none 0 0) 0 :=
      ⟨D1.below bw, R1, hap, HNF.out, hlr, B1.trans (bw.mono B1.size)⟩
    clear hap hlr
    obtain ⟨r, Hr⟩ : ∃ r, Hid (w1.heap.size = r) := ⟨_, rfl⟩
    rw [Hr.out] at P0 ⊢
    clear R1 bw D1 hnew
    go_wp2_with fail
    go_loopw [7] (fun c wr => ∃ (k : Nat) (d : Dsk) (L : Loc) (R : RD) (vs vp vf : Value), c = .int .i64 k ∧ k ≤ 60 ∧ Hid (Rel d R) ∧ Hid (d.n = n) ∧ Hid (d.ops ≤ k) ∧ PS w wr g r d L R vs vp vf (4 * k)) (fun c _ => 60 - (intOf c).toNat)
    case atStart => exact ⟨0, _, _, _, _, _, _, rfl, by omega, new_rel n, rfl, by show (0 : Int) ≤ _; omega, P0⟩
    case round =>
      clear P0 B1
      obtain ⟨k, d, L, R, vs, vp, vf, rfl, hk, HREL, HN, HOPS, PP⟩ := hrel
      by_cases hkl : k < m
      · have hkl' : (k : Int) < (m : Int) := by omega
        by_cases hk60 : k < 60
        · have hk60' : (k : Int) < 60 := by omega
          obtain ⟨A, ⟨kd, b, y, fs, ks, zl, bl⟩, hoa, ok0, hcell⟩ := HCS.out k hkl
          subst hoa
          have ok1 := ok0.keep PP.b
          have hcw : ∀ j u, [Value.int .i64 kd, .int .i64 b, .int .u8 y, fs, ks][j]? = some u → wr.cell? ((A.add (k * 5)).add j) = some u := fun j u hj => cell_keep (hcell j u hj) PP.b
          have HKS : Hid (∀ a n c, ks = .slice (some a) n c → bl ≠ [] → a.block < w.heap.size) := fun a n c e hb => by
            have hks0 : Cel w ks (bl.map .bool) := ok0.ks
            rcases hks0 with ⟨e2, _⟩ | ⟨a2, cap2, e2, hc2⟩
            · rw [e2] at e; cases e
            · rw [e2] at e
              simp only [Value.slice.injEq, Option.some.injEq] at e
              obtain ⟨rfl, _, _⟩ := e
              cases hbl : bl with
              | nil => exact absurd hbl hb
              | cons x t =>
                have := hc2 0 (.bool x) (by rw [hbl]; rfl)
                have h2 := cell_blk this
                exact h2
          have HOK0 : Hid (Call.Ok w ⟨kd, b, y, fs, ks, zl, bl⟩) := ok0
          clear hcell ok0
          have hone : (#[.int .i64 kd, .int .i64 b, .int .u8 y, fs, ks] : Array Value).all (·.oneCell') = true := by simp [Value.oneCell', ok1.fs.one, ok1.ks.one]; exact ⟨ok1.fs.one, ok1.ks.one⟩
          have HONE : Hid _ := hone
          have z0 : Row (wr.alloc (.cells #[.int .i64 0, .int .i64 0, .int .u8 0, .slice none 0 0, .slice none 0 0] 33)) wr.heap.size #[.int .i64 0, .int .i64 0, .int .u8 0, .slice none 0 0, .slice none 0 0] 33 := Row.new _ _ _
          have rO : Row ((wr.alloc (.cells #[.int .i64 0, .int .i64 0, .int .u8 0, .slice none 0 0, .slice none 0 0] 33)).setRow wr.heap.size #[.int .i64 kd, .int .i64 b, .int .u8 y, fs, ks]) wr.heap.size #[.int .i64 kd, .int .i64 b, .int .u8 y, fs, ks] 33 := z0.set _
          have b2 : Below wr.heap.size wr ((wr.alloc (.cells #[.int .i64 0, .int .i64 0, .int .u8 0, .slice none 0 0, .slice none 0 0] 33)).setRow wr.heap.size #[.int .i64 kd, .int .i64 b, .int .u8 y, fs, ks]) := below_setRow ((Below.refl _ _).alloc (Nat.le_refl _) _) (Nat.le_refl _) _
          have P2 := ps_below PP b2
          have ok2 := ok1.keep b2
          have C2R : RDAt ((wr.alloc (.cells #[.int .i64 0, .int .i64 0, .int .u8 0, .slice none 0 0, .slice none 0 0] 33)).setRow wr.heap.size #[.int .i64 kd, .int .i64 b, .int .u8 y, fs, ks]) r R vs vp vf (4 * k) := P2.C
          have HAP : Hid (∀ j, foot g L j → ¬ rfoot r vs vp vf j) := P2.ap
          have HFO : Hid (∀ j, foot g L j → j < wr.heap.size) := fun j hj => PP.D.lt hj
          have HFR : Hid (∀ j, rfoot r vs vp vf j → j < wr.heap.size) := fun j hj => PP.C.lt hj
          have HWL : Hid (w.heap.size ≤ wr.heap.size) := PP.b.size
          have hops := HOPS.out
          have hops0 := PP.D.opsn
          have hdo := do_disk P2.D (by omega) (by omega) ⟨kd, b, y, fs, ks, zl, bl⟩ ok2
          have hXl : (act d ⟨kd, b, y, fs, ks, zl, bl⟩).1.length = 256 := act_length PP.D _
          obtain ⟨ra1, ra2, ra3⟩ := rel_act HREL.out ⟨kd, b, y, fs, ks, zl, bl⟩
          obtain ⟨ao1, ao2⟩ := act_ops d hops0 ⟨kd, b, y, fs, ks, zl, bl⟩
          obtain ⟨RR, HRR⟩ : ∃ RR, Hid (ract R ⟨kd, b, y, fs, ks, zl, bl⟩ = RR) := ⟨_, rfl⟩
          rw [HRR.out] at ra1 ra2 ra3
          have HACZ : Hid (¬ kd = 0 → (act d ⟨kd, b, y, fs, ks, zl, bl⟩).1 = zs 256) := fun q => by
            unfold act
            rw [if_neg q]
            repeat' split
            all_goals rfl
          generalize act d ⟨kd, b, y, fs, ks, zl, bl⟩ = aa at hdo hXl ra1 ra2 ra3 ao1 ao2 HACZ
          obtain ⟨X, E, d'⟩ := aa
          obtain ⟨RX, RE, R'⟩ := RR
          simp only at hdo hXl ra1 ra2 ra3 ao1 ao2 HACZ
          subst ra1 ra2
          have HREL' : Hid (Rel d' R') := ra3
          have HN' : Hid (d'.n = n) := ao2.trans HN.out
          have HOPS' : Hid (d'.ops ≤ ((k + 1 : Nat) : Int)) := by show _ ≤ _; have := HOPS.out; push_cast; omega
          have HXL : Hid (RX.length = 256) := hXl
          have HRO : Hid (R.ops < 9223372036854775806) := by show _ < _; rw [HREL.out.ops]; omega
          clear ra3 ao1 ao2 hops hops0 hXl hone PP
          have tl : Hid (1 = 1) := rfl
          have ts : Hid (1 = 1) := rfl
          have tm : Hid (1 = 1) := rfl
          have ty1 : Hid (1 = 1) := rfl
          go_upto_block 2 with (first
            | (have hh := tl; clear hh tl; refine wpList_load_any rfl 33 (.tmp 43) rfl (A.add (k * 5)) rfl [.int .i64 kd, .int .i64 b, .int .u8 y, fs, ks] _ hcw Try.underlying33 rfl size33 ?_)
            | (have hh := ts; clear hh ts; refine store_cells rfl 33 (.tmp 8) (.tmp 44) rfl wr.heap.size #[.int .i64 kd, .int .i64 b, .int .u8 y, fs, ks] rfl rfl 33 _ z0 5 size33 rfl rfl HONE.out ?_)
            | (have hh := tm; clear hh tm; refine wpList_load_mid rfl 33 (.tmp 8) rfl wr.heap.size 0 rfl [.int .i64 kd, .int .i64 b, .int .u8 y, fs, ks] _ (range_op rO) Try.underlying33 rfl size33 ?_)
            | (go_at_call 11; refine hdo.mono ?_; clear hdo; rintro e w7 ⟨he, hcr⟩; obtain rfl := he
               have y0 : Row (w7.alloc (.cells (bs (zs 256)) 35)) w7.heap.size (bs (zs 256)) 35 := Row.new _ _ _
               have O7 := hcr
               have c8 : ((((w7.alloc (.cells (bs (zs 256)) 35)).setRow w7.heap.size (bs RX)).alloc (.cells (bs (zs 256)) 34))).cell? ⟨wr.heap.size, 0, none⟩ = some (.int .i64 kd) := by
                 obtain ⟨L', D', Of, Fo⟩ := hcr
                 have q0 := rO.off Of (fun q => by have := HFO.out _ q; omega)
                 have hl := q0.lt
                 exact row_at (((q0.alloc _).other (by omega) _).alloc _) 0 _ rfl)
            | (have hh := ty1; clear hh ty1; refine store_row rfl 35 (.tmp 9) (.tmp 49) rfl w7.heap.size RX rfl rfl 35 _ y0 256 size35 (by rw [bs_size, zs_length]) HXL.out ?_))
          obtain ⟨L', P7⟩ := ps_act P2 hcr (by omega)
          obtain ⟨L7, D7x, O7x, F7x⟩ := hcr
          have q7 := rO.off O7x (fun q => by have := HFO.out _ q; omega)
          have hs7 := O7x.size
          have hl7 := q7.lt
          have b8 : Below w7.heap.size w7 ((w7.alloc (.cells (bs (zs 256)) 35)).setRow w7.heap.size (bs RX)) := below_setRow ((Below.refl _ _).alloc (Nat.le_refl _) _) (Nat.le_refl _) _
          have x8 : Row ((w7.alloc (.cells (bs (zs 256)) 35)).setRow w7.heap.size (bs RX)) w7.heap.size (bs RX) 35 := y0.set _
          have P8 := ps_below P7 b8
          have q8 := q7.below b8 q7.lt
          have hs8 : ((w7.alloc (.cells (bs (zs 256)) 35)).setRow w7.heap.size (bs RX)).heap.size = w7.heap.size + 1 := by simp [World.setRow]
          generalize (w7.alloc (.cells (bs (zs 256)) 35)).setRow w7.heap.size (bs RX) = w8 at x8 P8 q8 c8 b8 hs8 ⊢
          have b9 : Below w8.heap.size w8 (w8.alloc (.cells (bs (zs 256)) 34)) := (Below.refl _ _).alloc (Nat.le_refl _) _
          have y9 : Row (w8.alloc (.cells (bs (zs 256)) 34)) w8.heap.size (bs (zs 256)) 34 := Row.new _ _ _
          have x9r := x8.below b9 x8.lt
          have P9 := ps_below P8 b9
          have q9 := q8.below b9 q8.lt
          have hne1 : w8.heap.size ≠ w7.heap.size := by have := x8.lt; omega
          have hne2 : w8.heap.size ≠ wr.heap.size := by have := q8.lt; omega
          have HA1 : Hid (∀ j, rfoot r vs vp vf j → j ≠ wr.heap.size ∧ j ≠ w7.heap.size ∧ j ≠ w8.heap.size) := fun j hj => by
            have h1 := HFR.out j hj
            have h2 := P8.C.lt hj
            have h3 := P7.C.lt hj
            exact ⟨by omega, by omega, by omega⟩
          have HCR : Hid (∀ wz, Below (w8.alloc (.cells (bs (zs 256)) 34)).heap.size (w8.alloc (.cells (bs (zs 256)) 34)) wz → RDAt wz r R vs vp vf (4 * k)) := fun wz hb => ((((C2R.off O7x (fun q hq hf => HAP.out q hf hq)).below b8).below b9)).below hb
          have HYD : Hid (¬ foot g L' w8.heap.size) := fun q => by have := P8.D.lt q; omega
          have HYL : Hid (w.heap.size ≤ w8.heap.size) := P8.b.size
          have HNE : Hid (w8.heap.size ≠ w7.heap.size ∧ w8.heap.size ≠ wr.heap.size) := ⟨hne1, hne2⟩
          have hbw : Below w.heap.size w (w8.alloc (.cells (bs (zs 256)) 34)) := P9.b
          clear y0 P7 P8 q7 q8 x8 b8 D7x F7x hcw z0 rO b2 P2 hl7
          obtain ⟨O, HO⟩ : ∃ O, Hid (wr.heap.size = O) := ⟨_, rfl⟩
          obtain ⟨x9, Hx9⟩ : ∃ x9, Hid (w7.heap.size = x9) := ⟨_, rfl⟩
          obtain ⟨y11, Hy11⟩ : ∃ y11, Hid (w7.heap.size + 1 = y11) := ⟨_, rfl⟩
          rw [hs8] at y9 HA1 hne1 hne2 HYD HYL HNE
          rw [Hy11.out] at y9 HA1 hne1 hne2 HYD HYL HNE
          rw [HO.out] at q9 c8 HA1 hne2
          rw [Hx9.out] at x9r HA1 hne1
          rw [HO.out, Hx9.out] at HNE
          rw [HO.out, Hy11.out, Hx9.out]
          generalize w8.alloc (.cells (bs (zs 256)) 34) = w9 at P9 q9 x9r y9 c8 hbw HCR ⊢
          have HKO : Hid (∀ w', Cmp w g r d' L' R' vs vp vf (4 * k + 4) O x9 y11 RX #[.int .i64 kd, .int .i64 b, .int .u8 y, fs, ks] w' → True) := fun _ _ => trivial
          go_cut [12] from 31 to 161 (fun f wx => f = .int .i64 RE ∧ Met2 w g r d' L' R' (4 * k + 4) O x9 y11 RX #[.int .i64 kd, .int .i64 b, .int .u8 y, fs, ks] wx)
          case first =>
            have o1 := row_at q9 1 (.int .i64 b) rfl
            have o2 := row_at q9 2 (.int .u8 y) rfl
            have o3 := row_at q9 3 fs rfl
            have o4 := row_at q9 4 ks rfl
            have keepO : ∀ {w' : World}, Off (rfoot r vs vp vf) w9 w' → Row w' O #[.int .i64 kd, .int .i64 b, .int .u8 y, fs, ks] 33 ∧ Row w' x9 (bs RX) 35 ∧ Row w' y11 (bs (zs 256)) 34 := fun {w'} o => ⟨q9.off o (fun q => (HA1.out _ q).1 rfl), x9r.off o (fun q => (HA1.out _ q).2.1 rfl), y9.off o (fun q => (HA1.out _ q).2.2 rfl)⟩
            have HKEEP : Hid _ := @keepO
            clear keepO
            by_cases h0 : kd = 0
            · subst h0
              have hr : rread R b = (RX, RE, R') := HRR.out
              have hrd := rread_any P9.C HRO.out b
              have HRD : Hid (∀ e w', RRead w9 r R vs vp vf (4 * k + 4) b e w' → e = .returned (.tuple #[.agg (bs RX), .int .i64 RE]) ∧ RDAt w' r R' vs vp vf (4 * k + 4) ∧ Off (· = r) w9 w') := fun e w' q => by
                unfold RRead at q; rw [hr] at q; exact q
              clear hr
              go_wp2_with (first
                | (go_at_call 12; refine hrd.mono ?_; clear hrd; intro e w5 hq; obtain ⟨he, C5, o5⟩ := HRD.out _ _ hq; obtain rfl := he
                   have y5 := y9.off o5 (fun q => (HA1.out r (Or.inl rfl)).2.2 q.symm))
                | (refine store_row rfl 34 (.tmp 11) (.tmp 60) rfl y11 RX rfl rfl 34 _ y5 256 size34 (by rw [bs_size, zs_length]) HXL.out ?_))
              go_meet
              case rel =>
                refine ⟨rfl, ?_⟩
                obtain ⟨vs', vp', vf', P5, O5⟩ := ps_ref P9 (step_plain C5 o5)
                obtain ⟨k1, k2, k3⟩ := HKEEP.out O5
                have bx : Off (· = y11) w5 (w5.setRow y11 (bs RX)) := Off.of_setRow _ _ _ rfl
                have hy : ∀ j, rfoot r vs vp vf j → j ≠ y11 := fun j hj => (HA1.out j hj).2.2
                have hD5 : y11 < w9.heap.size := y9.lt
                have hDf : ∀ j, foot g L' j → j ≠ y11 := fun j hj e => HYD.out (e ▸ hj)
                exact ⟨vs, vp, vf, ⟨⟨P5.D.off bx (fun j hj e => hDf j hj e), C5.off bx (fun j hj e => hy j hj e), P9.ap, P9.lo, P9.lor, P5.b.trans (bx.below P5.b.size (fun j e => by rw [e]; exact HYL.out))⟩, k1.other (fun e => HNE.out.2 e.symm) _, k2.other (fun e => HNE.out.1 e.symm) _, k3.set _⟩⟩
            have hXz : RX = zs 256 := HACZ.out h0
            subst hXz
            have fin : ∀ {w' : World}, RStep w9 r vs vp vf R' (4 * k + 4) w' → Met2 w g r d' L' R' (4 * k + 4) O x9 y11 (zs 256) #[.int .i64 kd, .int .i64 b, .int .u8 y, fs, ks] w' := fun {w'} hs => by
              obtain ⟨vs', vp', vf', P5, O5⟩ := ps_ref P9 hs
              obtain ⟨k1, k2, k3⟩ := HKEEP.out O5
              exact ⟨vs', vp', vf', P5, k1, k2, k3⟩
            have HFIN : Hid _ := @fin
            clear fin
            have q0 : (kd == 0) = false := by simpa using h0
            by_cases h1 : kd = 1
            · subst h1
              have hy := ok2.y
              have hrw : rwrite R b (filled y) = (RE, R') := by
                have := HRR.out
                unfold ract at this
                simpa using this
              have HFI : Hid (∀ wz, Calls Try.prog 14 #[.int .u8 y] wz fun e w' => e = .returned (.agg (bs (filled y))) ∧ Below wz.heap.size wz w') := fun wz => filled_any y hy wz
              have HWT : Hid (∀ wz, Below w9.heap.size w9 wz → Calls Try.prog 13 #[.pointer (some ⟨r, 0, none⟩), .int .i64 b, .agg (bs (filled y))] wz fun e w' => e = .returned (.int .i64 RE) ∧ Met2 w g r d' L' R' (4 * k + 4) O x9 y11 (zs 256) #[.int .i64 1, .int .i64 b, .int .u8 y, fs, ks] w') := fun wz hb => by
                have PZ := ps_below P9 hb
                have Cz := HCR.out _ hb
                refine (rwrite_any Cz HRO.out b (filled y) (filled_length y) (filled_bytes y) (by omega)).mono ?_
                rintro e w' ⟨he, hst⟩
                rw [hrw] at he hst
                refine ⟨he, ?_⟩
                obtain ⟨vs', vp', vf', C5, O5, F5⟩ := hst
                obtain ⟨vs2, vp2, vf2, P5, O6⟩ := ps_ref PZ ⟨vs', vp', vf', C5, O5, F5⟩
                have O7 : Off (rfoot r vs vp vf) w9 w' := (Off.of_below hb).trans O6 (fun _ q => Or.inl q)
                obtain ⟨k1, k2, k3⟩ := HKEEP.out O7
                exact ⟨vs2, vp2, vf2, P5, k1, k2, k3⟩
              clear hrw
              go_upto_region 18 with fail
              refine wp_region_held_drew (S := fun w' => w'.cell? ⟨O, 1, none⟩ = some (.int .i64 b) ∧ w'.cell? ⟨O, 2, none⟩ = some (.int .u8 y)) (by kernel_rfl) ⟨o1, o2⟩ fun hS => ?_
              refine wpAnyH_take (i := 0) (v := .pointer (some ⟨r, 0, none⟩)) rfl (by kernel_rfl) (by kernel_rfl) (by kernel_rfl) (fun _ _ _ h => h) (Or.inl ⟨by rfl, fun w _ => by rfl⟩) hS ?_
              try simp only [Act.put, List.getElem_toArray, List.getElem_cons_zero, List.getElem_cons_succ, List.setIfInBounds_toArray, List.set_cons_zero, List.set_cons_succ]
              refine wpAnyH_take (i := 1) (v := .pointer (some ⟨O, 1, none⟩)) rfl (by kernel_rfl) (by kernel_rfl) (by kernel_rfl) (fun _ _ _ h => h) (Or.inl ⟨by rfl, fun w _ => by go_simp⟩) hS ?_
              try simp only [Act.put, List.getElem_toArray, List.getElem_cons_zero, List.getElem_cons_succ, List.setIfInBounds_toArray, List.set_cons_zero, List.set_cons_succ]
              refine wpAnyH_take (i := 2) (v := .int .i64 b) rfl (by kernel_rfl) (by kernel_rfl) (by kernel_rfl) (fun _ _ _ h => h) (Or.inl ⟨by rfl, fun w h => by have c := h.1; go_simp⟩) hS ?_
              try simp only [Act.put, List.getElem_toArray, List.getElem_cons_zero, List.getElem_cons_succ, List.setIfInBounds_toArray, List.set_cons_zero, List.set_cons_succ]
              refine wpAnyH_take (i := 3) (v := .pointer (some ⟨O, 2, none⟩)) rfl (by kernel_rfl) (by kernel_rfl) (by kernel_rfl) (fun _ _ _ h => h) (Or.inl ⟨by rfl, fun w _ => by go_simp⟩) hS ?_
              try simp only [Act.put, List.getElem_toArray, List.getElem_cons_zero, List.getElem_cons_succ, List.setIfInBounds_toArray, List.set_cons_zero, List.set_cons_succ]
              refine wpAnyH_take (i := 4) (v := .int .u8 y) rfl (by kernel_rfl) (by kernel_rfl) (by kernel_rfl) (fun _ _ _ h => h) (Or.inl ⟨by rfl, fun w h => by have c := h.2; go_simp⟩) hS ?_
              try simp only [Act.put, List.getElem_toArray, List.getElem_cons_zero, List.getElem_cons_succ, List.setIfInBounds_toArray, List.set_cons_zero, List.set_cons_succ]
              refine wpAnyH_ready (rs := [5]) (by kernel_rfl) (by simp) ?_
              refine AllReadyH.cons rfl (fun K hK => ?_) AllReadyH.nil
              go_simp
              go_at_call 14
              refine (HFI.out _).mono ?_
              rintro e wq ⟨he, bq⟩
              obtain rfl := he
              have bq9 : Below w9.heap.size w9 wq := (Below.refl _ w9).drew.trans bq
              refine hK.out _ _ ⟨cell_keep hS.1 bq, cell_keep hS.2 bq⟩ fun hS => ?_
              try simp only [Act.put, List.getElem_toArray, List.getElem_cons_zero, List.getElem_cons_succ, List.setIfInBounds_toArray, List.set_cons_zero, List.set_cons_succ]
              refine wpAnyH_ready (rs := [6]) (by kernel_rfl) (by simp) ?_
              refine AllReadyH.cons rfl (fun K hK => ?_) AllReadyH.nil
              go_simp
              go_at_call 13
              refine (HWT.out _ bq9).mono ?_
              rintro e w5 ⟨he, hm5⟩
              obtain rfl := he
              have hO5 : Row w5 O #[.int .i64 1, .int .i64 b, .int .u8 y, fs, ks] 33 := by obtain ⟨_, _, _, cc⟩ := hm5; exact cc.o
              refine hK.out _ _ ⟨row_at hO5 1 _ rfl, row_at hO5 2 _ rfl⟩ fun hS => ?_
              try simp only [Act.put, List.getElem_toArray, List.getElem_cons_zero, List.getElem_cons_succ, List.setIfInBounds_toArray, List.set_cons_zero, List.set_cons_succ]
              refine wpAnyH_take (i := 7) (v := .int .i64 RE) rfl (by kernel_rfl) (by kernel_rfl) (by kernel_rfl) (fun _ _ _ h => h) (Or.inl ⟨by rfl, fun w _ => by go_simp⟩) hS ?_
              try simp only [Act.put, List.getElem_toArray, List.getElem_cons_zero, List.getElem_cons_succ, List.setIfInBounds_toArray, List.set_cons_zero, List.set_cons_succ]
              refine wpAnyH_done (by kernel_rfl) ?_ _
              go_wp2_with fail
              go_meet
              case rel => exact ⟨rfl, hm5⟩
            have q1 : (kd == 1) = false := by simpa using h1
            by_cases h2 : kd = 2
            · subst h2
              have hrs : rsync R = (RE, R') := by
                have := HRR.out
                unfold ract at this
                simpa using this
              have hsy := rsync_any P9.C HRO.out
              rw [hrs] at hsy
              clear hrs
              go_wp2_with (first
                | (go_at_call 15; refine hsy.mono ?_; clear hsy; rintro e w5 ⟨he, hst⟩; obtain rfl := he))
              go_meet
              case rel => exact ⟨rfl, HFIN.out hst⟩
            have q2 : (kd == 2) = false := by simpa using h2
            by_cases h3 : kd = 3
            · subst h3
              have hrp : RE = 0 ∧ R' = rplan R zl b := by
                have := HRR.out
                unfold ract at this
                simp at this
                exact ⟨this.1.symm, this.2.symm⟩
              obtain ⟨e1, e2⟩ := hrp
              subst e1 e2
              have hpl := rplan_any P9.C fs zl (HOK0.out.fs.keep P9.b) HOK0.out.zl b HOK0.out.b
              go_wp2_with (first
                | (go_at_call 16; refine hpl.mono ?_; clear hpl; rintro e w5 ⟨he, vf5, C5, o5, n5⟩; obtain rfl := he))
              go_meet
              case rel =>
                refine ⟨rfl, HFIN.out ⟨vs, vp, vf5, C5, o5.mono (fun j q => Or.inl (Or.inl q)), fun j q => ?_⟩⟩
                rcases q with q | q | q | q
                · exact Or.inl (Or.inl q)
                · exact Or.inl (Or.inr (Or.inl q))
                · exact Or.inl (Or.inr (Or.inr (Or.inl q)))
                · exact Or.inr (n5 j q)
            have q3 : (kd == 3) = false := by simpa using h3
            by_cases h4 : kd = 4
            · subst h4
              have hrp : RE = 0 ∧ R' = rcrash R bl := by
                have := HRR.out
                unfold ract at this
                simp at this
                exact ⟨this.1.symm, this.2.symm⟩
              obtain ⟨e1, e2⟩ := hrp
              subst e1 e2
              have hcr := rcrash_any P9.C ks bl (HOK0.out.ks.keep P9.b) (fun a n c e hb q => by have h1 := HKS.out a n c e hb; have h2 := P9.lor _ q; omega) (by omega)
              go_wp2_with (first
                | (go_at_call 17; refine hcr.mono ?_; clear hcr; rintro e w5 ⟨he, hst⟩; obtain rfl := he))
              go_meet
              case rel => exact ⟨rfl, HFIN.out hst⟩
            have q4 : (kd == 4) = false := by simpa using h4
            have hrp : RE = 0 ∧ R' = R := by
              have := HRR.out
              unfold ract at this
              simp [h0, h1, h2, h3, h4] at this
              exact ⟨this.1.symm, this.2.symm⟩
            obtain ⟨e1, e2⟩ := hrp
            subst e1 e2
            go_wp2_with fail
            go_meet
            case rel => exact ⟨rfl, HFIN.out (step_plain P9.C (Off.refl _ _))⟩
          case rest =>
            obtain ⟨rfl, vs', vp', vf', HM⟩ := hcut
            clear P9 q9 x9r y9 c8 hbw HKO HRR HACZ HCR HYD HYL HNE HA1 hne1 hne2 HFO HFR
            obtain ⟨oap, capp, evp⟩ := own_form HM.p.C.pend
            obtain ⟨pn, Hpn⟩ : ∃ pn, Hid (R'.pend.length = pn) := ⟨_, rfl⟩
            rw [Hpn.out] at evp
            subst evp
            obtain ⟨dn, Hdn⟩ : ∃ dn, Hid (d'.down = dn) := ⟨_, rfl⟩
            obtain ⟨op, Hop⟩ : ∃ op, Hid (d'.ops = op) := ⟨_, rfl⟩
            have HC6 : Hid (∀ w', Cmp w g r d' L' R' vs' (.slice oap pn capp) vf' (4 * k + 4) O x9 y11 RX #[.int .i64 kd, .int .i64 b, .int .u8 y, fs, ks] w' → w'.cell? ⟨r, 6, none⟩ = some (.bool dn)) := fun w' h => by rw [← Hdn.out, ← HREL'.out.down]; exact row_at h.p.C.row 6 _ rfl
            have HC5 : Hid (∀ w', Cmp w g r d' L' R' vs' (.slice oap pn capp) vf' (4 * k + 4) O x9 y11 RX #[.int .i64 kd, .int .i64 b, .int .u8 y, fs, ks] w' → w'.cell? ⟨r, 5, none⟩ = some (.int .i64 op)) := fun w' h => by rw [← Hop.out, ← HREL'.out.ops]; exact row_at h.p.C.row 5 _ rfl
            have HC2 : Hid (∀ w', Cmp w g r d' L' R' vs' (.slice oap pn capp) vf' (4 * k + 4) O x9 y11 RX #[.int .i64 kd, .int .i64 b, .int .u8 y, fs, ks] w' → w'.cell? ⟨r, 2, none⟩ = some (.slice oap pn capp)) := fun w' h => row_at h.p.C.row 2 _ rfl
            have HO1 : Hid (∀ w', Cmp w g r d' L' R' vs' (.slice oap pn capp) vf' (4 * k + 4) O x9 y11 RX #[.int .i64 kd, .int .i64 b, .int .u8 y, fs, ks] w' → w'.cell? ⟨O, 1, none⟩ = some (.int .i64 b)) := fun w' h => row_at h.o 1 _ rfl
            have HDN : Hid (∀ w', Cmp w g r d' L' R' vs' (.slice oap pn capp) vf' (4 * k + 4) O x9 y11 RX #[.int .i64 kd, .int .i64 b, .int .u8 y, fs, ks] w' → Calls Try.prog 18 #[.pointer (some ⟨g, 0, none⟩)] w' fun e w'' => e = .returned (.bool dn) ∧ w'' = w') := fun w' h => by rw [← Hdn.out]; exact down_any h.p.D
            have HOP : Hid (∀ w', Cmp w g r d' L' R' vs' (.slice oap pn capp) vf' (4 * k + 4) O x9 y11 RX #[.int .i64 kd, .int .i64 b, .int .u8 y, fs, ks] w' → Calls Try.prog 19 #[.pointer (some ⟨g, 0, none⟩)] w' fun e w'' => e = .returned (.int .i64 op) ∧ w'' = w') := fun w' h => by rw [← Hop.out]; exact ops_any h.p.D
            have HPN : Hid (∀ w', Cmp w g r d' L' R' vs' (.slice oap pn capp) vf' (4 * k + 4) O x9 y11 RX #[.int .i64 kd, .int .i64 b, .int .u8 y, fs, ks] w' → Calls Try.prog 20 #[.pointer (some ⟨g, 0, none⟩)] w' fun e w'' => e = .returned (.int .i64 (pn : Nat)) ∧ w'' = w') := fun w' h => by rw [← Hpn.out, HREL'.out.pend]; exact pending_any h.p.D
            have HSZ : Hid (∀ w', Cmp w g r d' L' R' vs' (.slice oap pn capp) vf' (4 * k + 4) O x9 y11 RX #[.int .i64 kd, .int .i64 b, .int .u8 y, fs, ks] w' → Calls Try.prog 21 #[.pointer (some ⟨g, 0, none⟩)] w' fun e w'' => e = .returned (.int .i64 (n : Nat)) ∧ w'' = w') := fun w' h => by rw [← HN'.out]; exact size_any h.p.D
            obtain ⟨E, hEE⟩ : ∃ E, RE = E := ⟨_, rfl⟩
            subst hEE
            obtain ⟨X, hXX⟩ : ∃ X, RX = X := ⟨_, rfl⟩
            subst hXX
            go_upto_region 25 with fail
            refine wp_region_held_drew (S := Cmp w g r d' L' R' vs' (.slice oap pn capp) vf' (4 * k + 4) O x9 y11 RX #[.int .i64 kd, .int .i64 b, .int .u8 y, fs, ks]) (by kernel_rfl) (HM.below (Below.refl _ _).drew) fun hS => ?_
            refine wpAnyH_take (i := 0) (v := .agg (bs RX)) rfl (by kernel_rfl) (by kernel_rfl) (by kernel_rfl) (fun _ _ _ h => h) (yields_row (by rfl) 35 (.tmp 9) rfl x9 rfl 35 (bs RX) (fun w h => h.x) 256 5 Try.underlying35 size35 (by rw [bs_size, HXL.out])) hS ?_
            try simp only [Act.put, List.getElem_toArray, List.getElem_cons_zero, List.getElem_cons_succ, List.setIfInBounds_toArray, List.set_cons_zero, List.set_cons_succ]
            refine wpAnyH_take (i := 1) (v := .agg (bs RX)) rfl (by kernel_rfl) (by kernel_rfl) (by kernel_rfl) (fun _ _ _ h => h) (yields_row (by rfl) 34 (.tmp 11) rfl y11 rfl 34 (bs RX) (fun w h => h.y) 256 5 Try.underlying34 size34 (by rw [bs_size, HXL.out])) hS ?_
            try simp only [Act.put, List.getElem_toArray, List.getElem_cons_zero, List.getElem_cons_succ, List.setIfInBounds_toArray, List.set_cons_zero, List.set_cons_succ]
            refine wpAnyH_take (i := 2) (v := .bool false) rfl (by kernel_rfl) (by kernel_rfl) (by kernel_rfl) (fun _ _ _ h => h) (yields_neq (by rfl) 35 35 (.tmp 89) (.tmp 90) rfl _ _ rfl rfl (by kernel_rfl) true (fun w => by rw [equal35 _ _ HXL.out HXL.out w]; simp)) hS ?_
            try simp only [Act.put, List.getElem_toArray, List.getElem_cons_zero, List.getElem_cons_succ, List.setIfInBounds_toArray, List.set_cons_zero, List.set_cons_succ]
            refine wpAnyH_take (i := 3) (v := .bool false) rfl (by kernel_rfl) (by kernel_rfl) (by kernel_rfl) (fun _ _ _ h => h) (Or.inl ⟨by rfl, fun w _ => by go_simp⟩) hS ?_
            try simp only [Act.put, List.getElem_toArray, List.getElem_cons_zero, List.getElem_cons_succ, List.setIfInBounds_toArray, List.set_cons_zero, List.set_cons_succ]
            refine wpAnyH_take (i := 4) (v := .int .i64 RE) rfl (by kernel_rfl) (by kernel_rfl) (by kernel_rfl) (fun _ _ _ h => h) (Or.inl ⟨by rfl, fun w _ => by go_simp⟩) hS ?_
            try simp only [Act.put, List.getElem_toArray, List.getElem_cons_zero, List.getElem_cons_succ, List.setIfInBounds_toArray, List.set_cons_zero, List.set_cons_succ]
            refine wpAnyH_take (i := 5) (v := .int .i64 RE) rfl (by kernel_rfl) (by kernel_rfl) (by kernel_rfl) (fun _ _ _ h => h) (Or.inl ⟨by rfl, fun w _ => by go_simp⟩) hS ?_
            try simp only [Act.put, List.getElem_toArray, List.getElem_cons_zero, List.getElem_cons_succ, List.setIfInBounds_toArray, List.set_cons_zero, List.set_cons_succ]
            refine wpAnyH_take (i := 6) (v := .bool false) rfl (by kernel_rfl) (by kernel_rfl) (by kernel_rfl) (fun _ _ _ h => h) (Or.inl ⟨by rfl, fun w _ => by go_simp⟩) hS ?_
            try simp only [Act.put, List.getElem_toArray, List.getElem_cons_zero, List.getElem_cons_succ, List.setIfInBounds_toArray, List.set_cons_zero, List.set_cons_succ]
            refine wpAnyH_take (i := 7) (v := .bool false) rfl (by kernel_rfl) (by kernel_rfl) (by kernel_rfl) (fun _ _ _ h => h) (Or.inl ⟨by rfl, fun w _ => by go_simp⟩) hS ?_
            try simp only [Act.put, List.getElem_toArray, List.getElem_cons_zero, List.getElem_cons_succ, List.setIfInBounds_toArray, List.set_cons_zero, List.set_cons_succ]
            refine wpAnyH_take (i := 8) (v := .bool false) rfl (by kernel_rfl) (by kernel_rfl) (by kernel_rfl) (fun _ _ _ h => h) (Or.inl ⟨by rfl, fun w _ => by go_simp⟩) hS ?_
            try simp only [Act.put, List.getElem_toArray, List.getElem_cons_zero, List.getElem_cons_succ, List.setIfInBounds_toArray, List.set_cons_zero, List.set_cons_succ]
            refine wpAnyH_take (i := 9) (v := .pointer (some ⟨g, 0, none⟩)) rfl (by kernel_rfl) (by kernel_rfl) (by kernel_rfl) (fun _ _ _ h => h) (Or.inl ⟨by rfl, fun w _ => by go_simp⟩) hS ?_
            try simp only [Act.put, List.getElem_toArray, List.getElem_cons_zero, List.getElem_cons_succ, List.setIfInBounds_toArray, List.set_cons_zero, List.set_cons_succ]
            refine wpAnyH_take (i := 11) (v := .pointer (some ⟨r, 0, none⟩)) rfl (by kernel_rfl) (by kernel_rfl) (by kernel_rfl) (fun _ _ _ h => h) (Or.inl ⟨by rfl, fun w _ => by go_simp⟩) hS ?_
            try simp only [Act.put, List.getElem_toArray, List.getElem_cons_zero, List.getElem_cons_succ, List.setIfInBounds_toArray, List.set_cons_zero, List.set_cons_succ]
            refine wpAnyH_take (i := 12) (v := .pointer (some ⟨r, 0, none⟩)) rfl (by kernel_rfl) (by kernel_rfl) (by kernel_rfl) (fun _ _ _ h => h) (Or.inl ⟨by rfl, fun w _ => by go_simp⟩) hS ?_
            try simp only [Act.put, List.getElem_toArray, List.getElem_cons_zero, List.getElem_cons_succ, List.setIfInBounds_toArray, List.set_cons_zero, List.set_cons_succ]
            refine wpAnyH_take (i := 13) (v := .pointer (some ⟨r, 6, none⟩)) rfl (by kernel_rfl) (by kernel_rfl) (by kernel_rfl) (fun _ _ _ h => h) (Or.inl ⟨by rfl, fun w _ => by go_simp⟩) hS ?_
            try simp only [Act.put, List.getElem_toArray, List.getElem_cons_zero, List.getElem_cons_succ, List.setIfInBounds_toArray, List.set_cons_zero, List.set_cons_succ]
            refine wpAnyH_take (i := 14) (v := .bool dn) rfl (by kernel_rfl) (by kernel_rfl) (by kernel_rfl) (fun _ _ _ h => h) (Or.inl ⟨by rfl, fun w h => by have c := HC6.out w h; go_simp⟩) hS ?_
            try simp only [Act.put, List.getElem_toArray, List.getElem_cons_zero, List.getElem_cons_succ, List.setIfInBounds_toArray, List.set_cons_zero, List.set_cons_succ]
            refine wpAnyH_ready (rs := [10]) (by kernel_rfl) (by simp) ?_
            refine AllReadyH.cons rfl (fun K hK => ?_) AllReadyH.nil
            go_simp
            go_at_call 18
            refine (HDN.out _ hS).mono ?_
            rintro e wb ⟨he, hww⟩
            rw [hww]
            clear hww wb
            obtain rfl := he
            refine hK.out _ _ hS fun hS => ?_
            try simp only [Act.put, List.getElem_toArray, List.getElem_cons_zero, List.getElem_cons_succ, List.setIfInBounds_toArray, List.set_cons_zero, List.set_cons_succ]
            refine wpAnyH_take (i := 15) (v := .bool false) rfl (by kernel_rfl) (by kernel_rfl) (by kernel_rfl) (fun _ _ _ h => h) (Or.inl ⟨by rfl, fun w _ => by go_simp⟩) hS ?_
            try simp only [Act.put, List.getElem_toArray, List.getElem_cons_zero, List.getElem_cons_succ, List.setIfInBounds_toArray, List.set_cons_zero, List.set_cons_succ]
            refine wpAnyH_take (i := 16) (v := .bool false) rfl (by kernel_rfl) (by kernel_rfl) (by kernel_rfl) (fun _ _ _ h => h) (Or.inl ⟨by rfl, fun w _ => by go_simp⟩) hS ?_
            try simp only [Act.put, List.getElem_toArray, List.getElem_cons_zero, List.getElem_cons_succ, List.setIfInBounds_toArray, List.set_cons_zero, List.set_cons_succ]
            refine wpAnyH_take (i := 17) (v := .bool false) rfl (by kernel_rfl) (by kernel_rfl) (by kernel_rfl) (fun _ _ _ h => h) (Or.inl ⟨by rfl, fun w _ => by go_simp⟩) hS ?_
            try simp only [Act.put, List.getElem_toArray, List.getElem_cons_zero, List.getElem_cons_succ, List.setIfInBounds_toArray, List.set_cons_zero, List.set_cons_succ]
            refine wpAnyH_take (i := 18) (v := .pointer (some ⟨g, 0, none⟩)) rfl (by kernel_rfl) (by kernel_rfl) (by kernel_rfl) (fun _ _ _ h => h) (Or.inl ⟨by rfl, fun w _ => by go_simp⟩) hS ?_
            try simp only [Act.put, List.getElem_toArray, List.getElem_cons_zero, List.getElem_cons_succ, List.setIfInBounds_toArray, List.set_cons_zero, List.set_cons_succ]
            refine wpAnyH_take (i := 20) (v := .pointer (some ⟨r, 0, none⟩)) rfl (by kernel_rfl) (by kernel_rfl) (by kernel_rfl) (fun _ _ _ h => h) (Or.inl ⟨by rfl, fun w _ => by go_simp⟩) hS ?_
            try simp only [Act.put, List.getElem_toArray, List.getElem_cons_zero, List.getElem_cons_succ, List.setIfInBounds_toArray, List.set_cons_zero, List.set_cons_succ]
            refine wpAnyH_take (i := 21) (v := .pointer (some ⟨r, 0, none⟩)) rfl (by kernel_rfl) (by kernel_rfl) (by kernel_rfl) (fun _ _ _ h => h) (Or.inl ⟨by rfl, fun w _ => by go_simp⟩) hS ?_
            try simp only [Act.put, List.getElem_toArray, List.getElem_cons_zero, List.getElem_cons_succ, List.setIfInBounds_toArray, List.set_cons_zero, List.set_cons_succ]
            refine wpAnyH_take (i := 22) (v := .pointer (some ⟨r, 5, none⟩)) rfl (by kernel_rfl) (by kernel_rfl) (by kernel_rfl) (fun _ _ _ h => h) (Or.inl ⟨by rfl, fun w _ => by go_simp⟩) hS ?_
            try simp only [Act.put, List.getElem_toArray, List.getElem_cons_zero, List.getElem_cons_succ, List.setIfInBounds_toArray, List.set_cons_zero, List.set_cons_succ]
            refine wpAnyH_take (i := 23) (v := .int .i64 op) rfl (by kernel_rfl) (by kernel_rfl) (by kernel_rfl) (fun _ _ _ h => h) (Or.inl ⟨by rfl, fun w h => by have c := HC5.out w h; go_simp⟩) hS ?_
            try simp only [Act.put, List.getElem_toArray, List.getElem_cons_zero, List.getElem_cons_succ, List.setIfInBounds_toArray, List.set_cons_zero, List.set_cons_succ]
            refine wpAnyH_ready (rs := [19]) (by kernel_rfl) (by simp) ?_
            refine AllReadyH.cons rfl (fun K hK => ?_) AllReadyH.nil
            go_simp
            go_at_call 19
            refine (HOP.out _ hS).mono ?_
            rintro e wb ⟨he, hww⟩
            rw [hww]
            clear hww wb
            obtain rfl := he
            refine hK.out _ _ hS fun hS => ?_
            try simp only [Act.put, List.getElem_toArray, List.getElem_cons_zero, List.getElem_cons_succ, List.setIfInBounds_toArray, List.set_cons_zero, List.set_cons_succ]
            refine wpAnyH_take (i := 24) (v := .bool false) rfl (by kernel_rfl) (by kernel_rfl) (by kernel_rfl) (fun _ _ _ h => h) (Or.inl ⟨by rfl, fun w _ => by go_simp⟩) hS ?_
            try simp only [Act.put, List.getElem_toArray, List.getElem_cons_zero, List.getElem_cons_succ, List.setIfInBounds_toArray, List.set_cons_zero, List.set_cons_succ]
            refine wpAnyH_take (i := 25) (v := .bool false) rfl (by kernel_rfl) (by kernel_rfl) (by kernel_rfl) (fun _ _ _ h => h) (Or.inl ⟨by rfl, fun w _ => by go_simp⟩) hS ?_
            try simp only [Act.put, List.getElem_toArray, List.getElem_cons_zero, List.getElem_cons_succ, List.setIfInBounds_toArray, List.set_cons_zero, List.set_cons_succ]
            refine wpAnyH_take (i := 26) (v := .bool false) rfl (by kernel_rfl) (by kernel_rfl) (by kernel_rfl) (fun _ _ _ h => h) (Or.inl ⟨by rfl, fun w _ => by go_simp⟩) hS ?_
            try simp only [Act.put, List.getElem_toArray, List.getElem_cons_zero, List.getElem_cons_succ, List.setIfInBounds_toArray, List.set_cons_zero, List.set_cons_succ]
            refine wpAnyH_take (i := 27) (v := .pointer (some ⟨g, 0, none⟩)) rfl (by kernel_rfl) (by kernel_rfl) (by kernel_rfl) (fun _ _ _ h => h) (Or.inl ⟨by rfl, fun w _ => by go_simp⟩) hS ?_
            try simp only [Act.put, List.getElem_toArray, List.getElem_cons_zero, List.getElem_cons_succ, List.setIfInBounds_toArray, List.set_cons_zero, List.set_cons_succ]
            refine wpAnyH_take (i := 29) (v := .pointer (some ⟨r, 0, none⟩)) rfl (by kernel_rfl) (by kernel_rfl) (by kernel_rfl) (fun _ _ _ h => h) (Or.inl ⟨by rfl, fun w _ => by go_simp⟩) hS ?_
            try simp only [Act.put, List.getElem_toArray, List.getElem_cons_zero, List.getElem_cons_succ, List.setIfInBounds_toArray, List.set_cons_zero, List.set_cons_succ]
            refine wpAnyH_take (i := 30) (v := .pointer (some ⟨r, 0, none⟩)) rfl (by kernel_rfl) (by kernel_rfl) (by kernel_rfl) (fun _ _ _ h => h) (Or.inl ⟨by rfl, fun w _ => by go_simp⟩) hS ?_
            try simp only [Act.put, List.getElem_toArray, List.getElem_cons_zero, List.getElem_cons_succ, List.setIfInBounds_toArray, List.set_cons_zero, List.set_cons_succ]
            refine wpAnyH_take (i := 31) (v := .pointer (some ⟨r, 2, none⟩)) rfl (by kernel_rfl) (by kernel_rfl) (by kernel_rfl) (fun _ _ _ h => h) (Or.inl ⟨by rfl, fun w _ => by go_simp⟩) hS ?_
            try simp only [Act.put, List.getElem_toArray, List.getElem_cons_zero, List.getElem_cons_succ, List.setIfInBounds_toArray, List.set_cons_zero, List.set_cons_succ]
            refine wpAnyH_take (i := 32) (v := .slice oap pn capp) rfl (by kernel_rfl) (by kernel_rfl) (by kernel_rfl) (fun _ _ _ h => h) (Or.inl ⟨by rfl, fun w h => by have c := HC2.out w h; go_simp⟩) hS ?_
            try simp only [Act.put, List.getElem_toArray, List.getElem_cons_zero, List.getElem_cons_succ, List.setIfInBounds_toArray, List.set_cons_zero, List.set_cons_succ]
            refine wpAnyH_take (i := 33) (v := .int .i64 (pn : Nat)) rfl (by kernel_rfl) (by kernel_rfl) (by kernel_rfl) (fun _ _ _ h => h) (Or.inl ⟨by rfl, fun w _ => by go_simp⟩) hS ?_
            try simp only [Act.put, List.getElem_toArray, List.getElem_cons_zero, List.getElem_cons_succ, List.setIfInBounds_toArray, List.set_cons_zero, List.set_cons_succ]
            refine wpAnyH_ready (rs := [28]) (by kernel_rfl) (by simp) ?_
            refine AllReadyH.cons rfl (fun K hK => ?_) AllReadyH.nil
            go_simp
            go_at_call 20
            refine (HPN.out _ hS).mono ?_
            rintro e wb ⟨he, hww⟩
            rw [hww]
            clear hww wb
            obtain rfl := he
            refine hK.out _ _ hS fun hS => ?_
            try simp only [Act.put, List.getElem_toArray, List.getElem_cons_zero, List.getElem_cons_succ, List.setIfInBounds_toArray, List.set_cons_zero, List.set_cons_succ]
            refine wpAnyH_take (i := 34) (v := .bool false) rfl (by kernel_rfl) (by kernel_rfl) (by kernel_rfl) (fun _ _ _ h => h) (Or.inl ⟨by rfl, fun w _ => by go_simp⟩) hS ?_
            try simp only [Act.put, List.getElem_toArray, List.getElem_cons_zero, List.getElem_cons_succ, List.setIfInBounds_toArray, List.set_cons_zero, List.set_cons_succ]
            refine wpAnyH_take (i := 35) (v := .bool false) rfl (by kernel_rfl) (by kernel_rfl) (by kernel_rfl) (fun _ _ _ h => h) (Or.inl ⟨by rfl, fun w _ => by go_simp⟩) hS ?_
            try simp only [Act.put, List.getElem_toArray, List.getElem_cons_zero, List.getElem_cons_succ, List.setIfInBounds_toArray, List.set_cons_zero, List.set_cons_succ]
            refine wpAnyH_take (i := 36) (v := .bool false) rfl (by kernel_rfl) (by kernel_rfl) (by kernel_rfl) (fun _ _ _ h => h) (Or.inl ⟨by rfl, fun w _ => by go_simp⟩) hS ?_
            try simp only [Act.put, List.getElem_toArray, List.getElem_cons_zero, List.getElem_cons_succ, List.setIfInBounds_toArray, List.set_cons_zero, List.set_cons_succ]
            refine wpAnyH_take (i := 37) (v := .pointer (some ⟨g, 0, none⟩)) rfl (by kernel_rfl) (by kernel_rfl) (by kernel_rfl) (fun _ _ _ h => h) (Or.inl ⟨by rfl, fun w _ => by go_simp⟩) hS ?_
            try simp only [Act.put, List.getElem_toArray, List.getElem_cons_zero, List.getElem_cons_succ, List.setIfInBounds_toArray, List.set_cons_zero, List.set_cons_succ]
            refine wpAnyH_take (i := 39) (v := .int .i64 (n : Nat)) rfl (by kernel_rfl) (by kernel_rfl) (by kernel_rfl) (fun _ _ _ h => h) (Or.inl ⟨by rfl, fun w _ => by go_simp⟩) hS ?_
            try simp only [Act.put, List.getElem_toArray, List.getElem_cons_zero, List.getElem_cons_succ, List.setIfInBounds_toArray, List.set_cons_zero, List.set_cons_succ]
            refine wpAnyH_ready (rs := [38]) (by kernel_rfl) (by simp) ?_
            refine AllReadyH.cons rfl (fun K hK => ?_) AllReadyH.nil
            go_simp
            go_at_call 21
            refine (HSZ.out _ hS).mono ?_
            rintro e wb ⟨he, hww⟩
            rw [hww]
            clear hww wb
            obtain rfl := he
            refine hK.out _ _ hS fun hS => ?_
            try simp only [Act.put, List.getElem_toArray, List.getElem_cons_zero, List.getElem_cons_succ, List.setIfInBounds_toArray, List.set_cons_zero, List.set_cons_succ]
            refine wpAnyH_take (i := 40) (v := .bool false) rfl (by kernel_rfl) (by kernel_rfl) (by kernel_rfl) (fun _ _ _ h => h) (Or.inl ⟨by rfl, fun w _ => by go_simp⟩) hS ?_
            try simp only [Act.put, List.getElem_toArray, List.getElem_cons_zero, List.getElem_cons_succ, List.setIfInBounds_toArray, List.set_cons_zero, List.set_cons_succ]
            refine wpAnyH_take (i := 41) (v := .bool false) rfl (by kernel_rfl) (by kernel_rfl) (by kernel_rfl) (fun _ _ _ h => h) (Or.inl ⟨by rfl, fun w _ => by go_simp⟩) hS ?_
            try simp only [Act.put, List.getElem_toArray, List.getElem_cons_zero, List.getElem_cons_succ, List.setIfInBounds_toArray, List.set_cons_zero, List.set_cons_succ]
            refine wpAnyH_done (by kernel_rfl) ?_ _
            clear HM HC6 HC5 HC2 HDN HOP HPN HSZ
            generalize wc.drew = wd at hS ⊢
            have o1 := row_at hS.o 1 (.int .i64 b) rfl
            by_cases hb0 : 0 ≤ b
            · by_cases hbn : b < n
              · have hb1 : 0 ≤ b ∧ b < d'.n := ⟨hb0, by rw [HN'.out]; exact hbn⟩
                obtain ⟨SE, Hse⟩ : ∃ SE, Hid (d'.seen b = SE) := ⟨_, rfl⟩
                obtain ⟨KE, Hke⟩ : ∃ KE, Hid (d'.sure.block b = KE) := ⟨_, rfl⟩
                have HSE : Hid (∀ w', Cmp w g r d' L' R' vs' (.slice oap pn capp) vf' (4 * k + 4) O x9 y11 RX #[.int .i64 kd, .int .i64 b, .int .u8 y, fs, ks] w' → Calls Try.prog 22 #[.pointer (some ⟨g, 0, none⟩), .int .i64 b] w' fun e w'' => e = .returned (.agg (bs SE)) ∧ Below w'.heap.size w' w'') := fun w' h => by rw [← Hse.out]; exact seen_in h.p.D b hb1
                have HRS : Hid (∀ w', Cmp w g r d' L' R' vs' (.slice oap pn capp) vf' (4 * k + 4) O x9 y11 RX #[.int .i64 kd, .int .i64 b, .int .u8 y, fs, ks] w' → Calls Try.prog 23 #[.pointer (some ⟨r, 0, none⟩), .int .i64 b] w' fun e w'' => e = .returned (.agg (bs SE)) ∧ Below w'.heap.size w' w'') := fun w' h => by rw [← Hse.out, ← HREL'.out.seen b]; exact rseen_any h.p.C b
                have HSU : Hid (∀ w', Cmp w g r d' L' R' vs' (.slice oap pn capp) vf' (4 * k + 4) O x9 y11 RX #[.int .i64 kd, .int .i64 b, .int .u8 y, fs, ks] w' → Calls Try.prog 24 #[.pointer (some ⟨g, 0, none⟩), .int .i64 b] w' fun e w'' => e = .returned (.agg (bs KE)) ∧ Below w'.heap.size w' w'') := fun w' h => by rw [← Hke.out]; exact sure_in h.p.D b hb1
                have HKE : Hid (∀ w', Cmp w g r d' L' R' vs' (.slice oap pn capp) vf' (4 * k + 4) O x9 y11 RX #[.int .i64 kd, .int .i64 b, .int .u8 y, fs, ks] w' → Calls Try.prog 25 #[.pointer (some ⟨r, 0, none⟩), .int .i64 b] w' fun e w'' => e = .returned (.agg (bs KE)) ∧ Below w'.heap.size w' w'') := fun w' h => by rw [← Hke.out, ← HREL'.out.kept b]; exact rkept_any h.p.C b
                have HSL : Hid (SE.length = 256) := by show _ = _; rw [← Hse.out, ← HREL'.out.seen b]; exact seen_len hS.p.C.oks hS.p.C.okp b
                have HKL : Hid (KE.length = 256) := by show _ = _; rw [← Hke.out, ← HREL'.out.kept b]; exact kept_len hS.p.C.oks b
                have hg1 : decide (b ≥ 0) = true := by simpa using hb0
                have hg2 : decide (b < (n : Int)) = true := by simpa using hbn
                clear hb1 o1
                have HSS : Hid _ := hS
                clear hS
                go_upto_region 27 with fail
                refine wp_region_held_drew (S := Cmp w g r d' L' R' vs' (.slice oap pn capp) vf' (4 * k + 4) O x9 y11 RX #[.int .i64 kd, .int .i64 b, .int .u8 y, fs, ks]) (by kernel_rfl) (Cmp.below HSS.out (Below.refl _ _).drew) fun hS => ?_
                refine wpAnyH_take (i := 0) (v := .pointer (some ⟨O, 1, none⟩)) rfl (by kernel_rfl) (by kernel_rfl) (by kernel_rfl) (fun _ _ _ h => h) (Or.inl ⟨by rfl, fun w _ => by go_simp⟩) hS ?_
                try simp only [Act.put, List.getElem_toArray, List.getElem_cons_zero, List.getElem_cons_succ, List.setIfInBounds_toArray, List.set_cons_zero, List.set_cons_succ]
                refine wpAnyH_take (i := 1) (v := .int .i64 b) rfl (by kernel_rfl) (by kernel_rfl) (by kernel_rfl) (fun _ _ _ h => h) (Or.inl ⟨by rfl, fun w h => by have c := HO1.out w h; go_simp⟩) hS ?_
                try simp only [Act.put, List.getElem_toArray, List.getElem_cons_zero, List.getElem_cons_succ, List.setIfInBounds_toArray, List.set_cons_zero, List.set_cons_succ]
                refine wpAnyH_take (i := 2) (v := .bool true) rfl (by kernel_rfl) (by kernel_rfl) (by kernel_rfl) (fun _ _ _ h => h) (Or.inl ⟨by rfl, fun w _ => by go_simp⟩) hS ?_
                try simp only [Act.put, List.getElem_toArray, List.getElem_cons_zero, List.getElem_cons_succ, List.setIfInBounds_toArray, List.set_cons_zero, List.set_cons_succ]
                refine wpAnyH_take (i := 3) (v := .bool true) rfl (by kernel_rfl) (by kernel_rfl) (by kernel_rfl) (fun _ _ _ h => h) (Or.inl ⟨by rfl, fun w _ => by go_simp⟩) hS ?_
                try simp only [Act.put, List.getElem_toArray, List.getElem_cons_zero, List.getElem_cons_succ, List.setIfInBounds_toArray, List.set_cons_zero, List.set_cons_succ]
                refine wpAnyH_take (i := 4) (v := .pointer (some ⟨O, 1, none⟩)) rfl (by kernel_rfl) (by kernel_rfl) (by kernel_rfl) (fun _ _ _ h => h) (Or.inl ⟨by rfl, fun w _ => by go_simp⟩) hS ?_
                try simp only [Act.put, List.getElem_toArray, List.getElem_cons_zero, List.getElem_cons_succ, List.setIfInBounds_toArray, List.set_cons_zero, List.set_cons_succ]
                refine wpAnyH_take (i := 5) (v := .int .i64 b) rfl (by kernel_rfl) (by kernel_rfl) (by kernel_rfl) (fun _ _ _ h => h) (Or.inl ⟨by rfl, fun w h => by have c := HO1.out w h; go_simp⟩) hS ?_
                try simp only [Act.put, List.getElem_toArray, List.getElem_cons_zero, List.getElem_cons_succ, List.setIfInBounds_toArray, List.set_cons_zero, List.set_cons_succ]
                refine wpAnyH_take (i := 6) (v := .int .i64 (n : Nat)) rfl (by kernel_rfl) (by kernel_rfl) (by kernel_rfl) (fun _ _ _ h => h) (Or.inl ⟨by rfl, fun w _ => by go_simp⟩) hS ?_
                try simp only [Act.put, List.getElem_toArray, List.getElem_cons_zero, List.getElem_cons_succ, List.setIfInBounds_toArray, List.set_cons_zero, List.set_cons_succ]
                refine wpAnyH_take (i := 7) (v := .bool true) rfl (by kernel_rfl) (by kernel_rfl) (by kernel_rfl) (fun _ _ _ h => h) (Or.inl ⟨by rfl, fun w _ => by go_simp⟩) hS ?_
                try simp only [Act.put, List.getElem_toArray, List.getElem_cons_zero, List.getElem_cons_succ, List.setIfInBounds_toArray, List.set_cons_zero, List.set_cons_succ]
                refine wpAnyH_take (i := 8) (v := .bool true) rfl (by kernel_rfl) (by kernel_rfl) (by kernel_rfl) (fun _ _ _ h => h) (Or.inl ⟨by rfl, fun w _ => by go_simp⟩) hS ?_
                try simp only [Act.put, List.getElem_toArray, List.getElem_cons_zero, List.getElem_cons_succ, List.setIfInBounds_toArray, List.set_cons_zero, List.set_cons_succ]
                refine wpAnyH_take (i := 9) (v := .bool true) rfl (by kernel_rfl) (by kernel_rfl) (by kernel_rfl) (fun _ _ _ h => h) (Or.inl ⟨by rfl, fun w _ => by go_simp⟩) hS ?_
                try simp only [Act.put, List.getElem_toArray, List.getElem_cons_zero, List.getElem_cons_succ, List.setIfInBounds_toArray, List.set_cons_zero, List.set_cons_succ]
                refine wpAnyH_take (i := 10) (v := .pointer (some ⟨g, 0, none⟩)) rfl (by kernel_rfl) (by kernel_rfl) (by kernel_rfl) (fun _ _ _ h => h) (Or.inl ⟨by rfl, fun w _ => by go_simp⟩) hS ?_
                try simp only [Act.put, List.getElem_toArray, List.getElem_cons_zero, List.getElem_cons_succ, List.setIfInBounds_toArray, List.set_cons_zero, List.set_cons_succ]
                refine wpAnyH_take (i := 11) (v := .pointer (some ⟨O, 1, none⟩)) rfl (by kernel_rfl) (by kernel_rfl) (by kernel_rfl) (fun _ _ _ h => h) (Or.inl ⟨by rfl, fun w _ => by go_simp⟩) hS ?_
                try simp only [Act.put, List.getElem_toArray, List.getElem_cons_zero, List.getElem_cons_succ, List.setIfInBounds_toArray, List.set_cons_zero, List.set_cons_succ]
                refine wpAnyH_take (i := 12) (v := .int .i64 b) rfl (by kernel_rfl) (by kernel_rfl) (by kernel_rfl) (fun _ _ _ h => h) (Or.inl ⟨by rfl, fun w h => by have c := HO1.out w h; go_simp⟩) hS ?_
                try simp only [Act.put, List.getElem_toArray, List.getElem_cons_zero, List.getElem_cons_succ, List.setIfInBounds_toArray, List.set_cons_zero, List.set_cons_succ]
                refine wpAnyH_take (i := 14) (v := .pointer (some ⟨r, 0, none⟩)) rfl (by kernel_rfl) (by kernel_rfl) (by kernel_rfl) (fun _ _ _ h => h) (Or.inl ⟨by rfl, fun w _ => by go_simp⟩) hS ?_
                try simp only [Act.put, List.getElem_toArray, List.getElem_cons_zero, List.getElem_cons_succ, List.setIfInBounds_toArray, List.set_cons_zero, List.set_cons_succ]
                refine wpAnyH_take (i := 15) (v := .pointer (some ⟨O, 1, none⟩)) rfl (by kernel_rfl) (by kernel_rfl) (by kernel_rfl) (fun _ _ _ h => h) (Or.inl ⟨by rfl, fun w _ => by go_simp⟩) hS ?_
                try simp only [Act.put, List.getElem_toArray, List.getElem_cons_zero, List.getElem_cons_succ, List.setIfInBounds_toArray, List.set_cons_zero, List.set_cons_succ]
                refine wpAnyH_take (i := 16) (v := .int .i64 b) rfl (by kernel_rfl) (by kernel_rfl) (by kernel_rfl) (fun _ _ _ h => h) (Or.inl ⟨by rfl, fun w h => by have c := HO1.out w h; go_simp⟩) hS ?_
                try simp only [Act.put, List.getElem_toArray, List.getElem_cons_zero, List.getElem_cons_succ, List.setIfInBounds_toArray, List.set_cons_zero, List.set_cons_succ]
                refine wpAnyH_ready (rs := [13]) (by kernel_rfl) (by simp) ?_
                refine AllReadyH.cons rfl (fun K hK => ?_) AllReadyH.nil
                go_simp
                go_at_call 22
                refine (HSE.out _ hS).mono ?_
                rintro e wq1 ⟨he, bq1⟩
                obtain rfl := he
                have hS1 := hS.below bq1
                refine hK.out _ _ hS1 fun hS => ?_
                try simp only [Act.put, List.getElem_toArray, List.getElem_cons_zero, List.getElem_cons_succ, List.setIfInBounds_toArray, List.set_cons_zero, List.set_cons_succ]
                refine wpAnyH_ready (rs := [17]) (by kernel_rfl) (by simp) ?_
                refine AllReadyH.cons rfl (fun K hK => ?_) AllReadyH.nil
                go_simp
                go_at_call 23
                refine (HRS.out _ hS).mono ?_
                rintro e wq2 ⟨he, bq2⟩
                obtain rfl := he
                have hS2 := hS.below bq2
                refine hK.out _ _ hS2 fun hS => ?_
                try simp only [Act.put, List.getElem_toArray, List.getElem_cons_zero, List.getElem_cons_succ, List.setIfInBounds_toArray, List.set_cons_zero, List.set_cons_succ]
                refine wpAnyH_take (i := 18) (v := .bool false) rfl (by kernel_rfl) (by kernel_rfl) (by kernel_rfl) (fun _ _ _ h => h) (yields_neq (by rfl) 35 35 (.tmp 144) (.tmp 148) rfl _ _ rfl rfl (by kernel_rfl) true (fun w => by rw [equal35 _ _ HSL.out HSL.out w]; simp)) hS ?_
                try simp only [Act.put, List.getElem_toArray, List.getElem_cons_zero, List.getElem_cons_succ, List.setIfInBounds_toArray, List.set_cons_zero, List.set_cons_succ]
                refine wpAnyH_take (i := 19) (v := .bool false) rfl (by kernel_rfl) (by kernel_rfl) (by kernel_rfl) (fun _ _ _ h => h) (Or.inl ⟨by rfl, fun w _ => by go_simp⟩) hS ?_
                try simp only [Act.put, List.getElem_toArray, List.getElem_cons_zero, List.getElem_cons_succ, List.setIfInBounds_toArray, List.set_cons_zero, List.set_cons_succ]
                refine wpAnyH_take (i := 20) (v := .pointer (some ⟨g, 0, none⟩)) rfl (by kernel_rfl) (by kernel_rfl) (by kernel_rfl) (fun _ _ _ h => h) (Or.inl ⟨by rfl, fun w _ => by go_simp⟩) hS ?_
                try simp only [Act.put, List.getElem_toArray, List.getElem_cons_zero, List.getElem_cons_succ, List.setIfInBounds_toArray, List.set_cons_zero, List.set_cons_succ]
                refine wpAnyH_take (i := 21) (v := .pointer (some ⟨O, 1, none⟩)) rfl (by kernel_rfl) (by kernel_rfl) (by kernel_rfl) (fun _ _ _ h => h) (Or.inl ⟨by rfl, fun w _ => by go_simp⟩) hS ?_
                try simp only [Act.put, List.getElem_toArray, List.getElem_cons_zero, List.getElem_cons_succ, List.setIfInBounds_toArray, List.set_cons_zero, List.set_cons_succ]
                refine wpAnyH_take (i := 22) (v := .int .i64 b) rfl (by kernel_rfl) (by kernel_rfl) (by kernel_rfl) (fun _ _ _ h => h) (Or.inl ⟨by rfl, fun w h => by have c := HO1.out w h; go_simp⟩) hS ?_
                try simp only [Act.put, List.getElem_toArray, List.getElem_cons_zero, List.getElem_cons_succ, List.setIfInBounds_toArray, List.set_cons_zero, List.set_cons_succ]
                refine wpAnyH_take (i := 24) (v := .pointer (some ⟨r, 0, none⟩)) rfl (by kernel_rfl) (by kernel_rfl) (by kernel_rfl) (fun _ _ _ h => h) (Or.inl ⟨by rfl, fun w _ => by go_simp⟩) hS ?_
                try simp only [Act.put, List.getElem_toArray, List.getElem_cons_zero, List.getElem_cons_succ, List.setIfInBounds_toArray, List.set_cons_zero, List.set_cons_succ]
                refine wpAnyH_take (i := 25) (v := .pointer (some ⟨O, 1, none⟩)) rfl (by kernel_rfl) (by kernel_rfl) (by kernel_rfl) (fun _ _ _ h => h) (Or.inl ⟨by rfl, fun w _ => by go_simp⟩) hS ?_
                try simp only [Act.put, List.getElem_toArray, List.getElem_cons_zero, List.getElem_cons_succ, List.setIfInBounds_toArray, List.set_cons_zero, List.set_cons_succ]
                refine wpAnyH_take (i := 26) (v := .int .i64 b) rfl (by kernel_rfl) (by kernel_rfl) (by kernel_rfl) (fun _ _ _ h => h) (Or.inl ⟨by rfl, fun w h => by have c := HO1.out w h; go_simp⟩) hS ?_
                try simp only [Act.put, List.getElem_toArray, List.getElem_cons_zero, List.getElem_cons_succ, List.setIfInBounds_toArray, List.set_cons_zero, List.set_cons_succ]
                refine wpAnyH_ready (rs := [23]) (by kernel_rfl) (by simp) ?_
                refine AllReadyH.cons rfl (fun K hK => ?_) AllReadyH.nil
                go_simp
                go_at_call 24
                refine (HSU.out _ hS).mono ?_
                rintro e wq3 ⟨he, bq3⟩
                obtain rfl := he
                have hS3 := hS.below bq3
                refine hK.out _ _ hS3 fun hS => ?_
                try simp only [Act.put, List.getElem_toArray, List.getElem_cons_zero, List.getElem_cons_succ, List.setIfInBounds_toArray, List.set_cons_zero, List.set_cons_succ]
                refine wpAnyH_ready (rs := [27]) (by kernel_rfl) (by simp) ?_
                refine AllReadyH.cons rfl (fun K hK => ?_) AllReadyH.nil
                go_simp
                go_at_call 25
                refine (HKE.out _ hS).mono ?_
                rintro e wq4 ⟨he, bq4⟩
                obtain rfl := he
                have hS4 := hS.below bq4
                refine hK.out _ _ hS4 fun hS => ?_
                try simp only [Act.put, List.getElem_toArray, List.getElem_cons_zero, List.getElem_cons_succ, List.setIfInBounds_toArray, List.set_cons_zero, List.set_cons_succ]
                refine wpAnyH_take (i := 28) (v := .bool false) rfl (by kernel_rfl) (by kernel_rfl) (by kernel_rfl) (fun _ _ _ h => h) (yields_neq (by rfl) 35 35 (.tmp 154) (.tmp 158) rfl _ _ rfl rfl (by kernel_rfl) true (fun w => by rw [equal35 _ _ HKL.out HKL.out w]; simp)) hS ?_
                try simp only [Act.put, List.getElem_toArray, List.getElem_cons_zero, List.getElem_cons_succ, List.setIfInBounds_toArray, List.set_cons_zero, List.set_cons_succ]
                refine wpAnyH_take (i := 29) (v := .bool false) rfl (by kernel_rfl) (by kernel_rfl) (by kernel_rfl) (fun _ _ _ h => h) (Or.inl ⟨by rfl, fun w _ => by go_simp⟩) hS ?_
                try simp only [Act.put, List.getElem_toArray, List.getElem_cons_zero, List.getElem_cons_succ, List.setIfInBounds_toArray, List.set_cons_zero, List.set_cons_succ]
                refine wpAnyH_take (i := 30) (v := .bool false) rfl (by kernel_rfl) (by kernel_rfl) (by kernel_rfl) (fun _ _ _ h => h) (Or.inl ⟨by rfl, fun w _ => by go_simp⟩) hS ?_
                try simp only [Act.put, List.getElem_toArray, List.getElem_cons_zero, List.getElem_cons_succ, List.setIfInBounds_toArray, List.set_cons_zero, List.set_cons_succ]
                refine wpAnyH_done (by kernel_rfl) ?_ _
                have PZ := hS.p
                go_wp2_with fail
                go_roundw
                case rel => exact ⟨k + 1, d', L', R', vs', .slice oap pn capp, vf', by go_num, by omega, HREL', HN', HOPS', PZ⟩
                case measure => simp [intOf]; omega
              · have hg1 : decide (b ≥ 0) = true := by simpa using hb0
                have hg2 : decide (b < (n : Int)) = false := by simpa using hbn
                have PZ0 : Hid _ := hS.p
                clear hS
                go_upto_region 27 with fail
                go_quiet (fail)
                go_wp2_with fail
                go_roundw
                case rel => exact ⟨k + 1, d', L', R', vs', .slice oap pn capp, vf', by go_num, by omega, HREL', HN', HOPS', ps_below PZ0.out (below_drewN (Below.refl _ _) _)⟩
                case measure => simp [intOf]; omega
            · have hg1 : decide (b ≥ 0) = false := by simpa using hb0
              have hg3 : decide ((0 : Int) ≤ b) = false := by simpa using hb0
              have PZ0 : Hid _ := hS.p
              clear hS
              go_upto_region 27 with fail
              go_quiet (fail)
              go_wp2_with fail
              go_roundw
              case rel => exact ⟨k + 1, d', L', R', vs', .slice oap pn capp, vf', by go_num, by omega, HREL', HN', HOPS', ps_below PZ0.out (below_drewN (Below.refl _ _) _)⟩
              case measure => simp [intOf]; omega
        · have hk60' : ¬ (k : Int) < 60 := by omega
          have hsee := seen_out (.pointer (some ⟨g, 0, none⟩)) (-1) wr (fun wa hb => by have := has_any (PP.D.below hb) (-1); rwa [decide_eq_false (by omega)] at this)
          have HSU2 : Hid (∀ wz, Below wr.heap.size wr wz → Calls Try.prog 24 #[.pointer (some ⟨g, 0, none⟩), .int .i64 (n : Nat)] wz fun e w' => e = .returned (.agg (bs (zs 256))) ∧ Below wz.heap.size wz w') := fun wz hz => sure_out (.pointer (some ⟨g, 0, none⟩)) n wz (fun wa hb => by have := has_any ((PP.D.below hz).below hb) (n : Int); rwa [decide_eq_false (by rw [HN.out]; omega)] at this)
          have he : ∀ w, (Op.equalIn 10000 35 (.agg (bs (zs 256))) (.agg (bs (zs 256)))).run Try.prog w = .ok true w := fun w => by rw [equal35 _ _ (zs_length 256) (zs_length 256) w]; simp
          have rbb := PP.b
          go_wp2_with (first
            | (go_at_call 22; refine hsee.mono ?_; clear hsee; rintro e w5 ⟨he5, b5⟩; obtain rfl := he5; have hsu := HSU2.out w5 b5)
            | (go_at_call 24; refine hsu.mono ?_; clear hsu; rintro e w6 ⟨he6, b6⟩; obtain rfl := he6)
            | (refine build_none rfl 35 rfl (bs (zs 256)) built35 ?_)
            | (refine build_none_g rfl 35 rfl (bs (zs 256)) built35 ?_)
            | (go_at_call 10; refine (awake_any _).mono ?_; rintro e w7 ⟨he7, b7⟩; obtain rfl := he7))
          go_ret
          have B5 := rbb.trans (b5.mono rbb.size)
          have B6 := B5.trans (b6.mono B5.size)
          exact ⟨rfl, B6.trans (b7.mono B6.size)⟩
      · have hkl' : ¬ (k : Int) < (m : Int) := by omega
        have hsee := seen_out (.pointer (some ⟨g, 0, none⟩)) (-1) wr (fun wa hb => by have := has_any (PP.D.below hb) (-1); rwa [decide_eq_false (by omega)] at this)
        have HSU2 : Hid (∀ wz, Below wr.heap.size wr wz → Calls Try.prog 24 #[.pointer (some ⟨g, 0, none⟩), .int .i64 (n : Nat)] wz fun e w' => e = .returned (.agg (bs (zs 256))) ∧ Below wz.heap.size wz w') := fun wz hz => sure_out (.pointer (some ⟨g, 0, none⟩)) n wz (fun wa hb => by have := has_any ((PP.D.below hz).below hb) (n : Int); rwa [decide_eq_false (by rw [HN.out]; omega)] at this)
        have he : ∀ w, (Op.equalIn 10000 35 (.agg (bs (zs 256))) (.agg (bs (zs 256)))).run Try.prog w = .ok true w := fun w => by rw [equal35 _ _ (zs_length 256) (zs_length 256) w]; simp
        have rbb := PP.b
        go_wp2_with (first
          | (go_at_call 22; refine hsee.mono ?_; clear hsee; rintro e w5 ⟨he5, b5⟩; obtain rfl := he5; have hsu := HSU2.out w5 b5)
          | (go_at_call 24; refine hsu.mono ?_; clear hsu; rintro e w6 ⟨he6, b6⟩; obtain rfl := he6)
          | (refine build_none rfl 35 rfl (bs (zs 256)) built35 ?_)
          | (refine build_none_g rfl 35 rfl (bs (zs 256)) built35 ?_)
          | (go_at_call 10; refine (awake_any _).mono ?_; rintro e w7 ⟨he7, b7⟩; obtain rfl := he7))
        go_ret
        have B5 := rbb.trans (b5.mono rbb.size)
        have B6 := B5.trans (b6.mono B5.size)
        exact ⟨rfl, B6.trans (b7.mono B6.size)⟩
  · have hnew := new_none nn hin w
    by_cases hlo : nn < 1
    · clear hin
      go_enter Try.func3, Try.ntmps3
      go_wp2_with (first
        | (go_at_call 9; refine hnew.mono ?_; rintro e wb ⟨he, hww⟩; rw [hww]; clear hww wb; obtain rfl := he)
        | (go_at_call 10; refine (awake_any _).mono ?_; rintro e w3 ⟨he, b3⟩; obtain rfl := he))
      go_ret
      exact ⟨rfl, b3⟩
    · have hhi : nn > 2048 := by omega
      clear hin
      go_enter Try.func3, Try.ntmps3
      go_wp2_with (first
        | (go_at_call 9; refine hnew.mono ?_; rintro e wb ⟨he, hww⟩; rw [hww]; clear hww wb; obtain rfl := he)
        | (go_at_call 10; refine (awake_any _).mono ?_; rintro e w3 ⟨he, b3⟩; obtain rfl := he))
      go_ret
      exact ⟨rfl, b3⟩

set_option maxRecDepth 100000 in
theorem lifted (os : Os) (started : os.Started) (H : Type) (enc : TypeId × Value → H) :
    ReturnsInHanded {} Try.checked os 3 .any (Rows.diskPlaysSpec.pre6 enc Try.prog Try.f3 Rows.diskPlaysRow.domain false) (Rows.diskPlaysSpec.post enc Try.prog Try.f3 false true false false) := by
  refine returnsInHanded_of_change_sized (C := Try.checked) own started (by kernel_rfl) Try.func3
    (ChangeSpec.witness6 (enc := enc) (C := Try.checked) false ⟨#[], #[.int .i64 0, .slice none 0 0], []⟩ 8 (by kernel_rfl) (by kernel_rfl) (by kernel_rfl) (by kernel_rfl)) ?_
  intro W base args ds gs before hval0 hW hcnd hsz0 _
  have hval : ∀ (j : Nat) t v, Try.f3.params[j]? = some t → args[j]? = some v → Value.okWide Try.prog W .any base t v := hval0
  have hW' := hW
  obtain ⟨p, q, hA0, hV, rfl, hfz, hnd⟩ := hW
  have hA : DataW.TrodAll enc Try.prog W 0 (fun _ => true) true Try.f3.params.toList args.toList ds p := hA0
  have hsz : (DataW.weightsEach Try.prog (Try.f3.params.toList ++ []) (ds ++ gs)).all (· ≤ reachBytes) = true := hsz0
  rw [Try.params3] at hA hval hsz
  obtain ⟨v0, vs0, d0, ds0, p0, q0, hargs, rfl, rfl, h0, r0⟩ := trodAll_cons hA
  obtain ⟨v1, vs1, d1, ds1, p1, q1, rfl, rfl, rfl, h1, r1⟩ := trodAll_cons r0
  obtain ⟨rfl, rfl, rfl⟩ := trodAll_nil r1
  obtain rfl : args = #[v0, v1] := by cases args; simp_all
  obtain ⟨rfl, rfl⟩ := trodVars_none hV
  simp only [List.append_nil] at hsz
  have hlt : ∀ x ∈ (p0 ++ (p1 ++ [])), x.block < W.heap.size := fun x hx => hW'.lt x (by simpa using hx)
  have hw0 : (d0.weights Try.prog 3).all (· ≤ reachBytes) = true := List.all_eq_true.2 fun m hm => List.all_eq_true.1 hsz m (by simp [DataW.weightsEach, hm])
  have hw1 : (d1.weights Try.prog 22).all (· ≤ reachBytes) = true := List.all_eq_true.2 fun m hm => List.all_eq_true.1 hsz m (by simp [DataW.weightsEach, hm])
  have k0 := h0
  have k1 := h1
  obtain ⟨a0, rfl, rfl, rfl, w0⟩ := open_int Try.underlying3 (hval 0 3 v0 rfl rfl) h0
  obtain ⟨a1, w1⟩ := open_calls (hval 1 22 v1 rfl rfl) h1 hw1
  clear hA0 hval0
  simp only [List.append_nil] at hW'
  refine (walk W a0 v1 a1 w0 w1).mono fun e W' ⟨he, hg⟩ => ?_
  subst he
  exact ⟨_, rfl, ⟨_, _, _, [], ([] ++ (p1 ++ [])), [], hW', (trodAll_cons_mk (shut_bool Try.underlying4 _) trodAll_mk0), (trodAll_cons_mk (Below.trod laid (by kernel_rfl) (of_decide_eq_true (by kernel_rfl)) k0 hg (fun x hx => (nomatch hx))) (trodAll_cons_mk (Below.trod laid (by kernel_rfl) (of_decide_eq_true (by kernel_rfl)) k1 hg (fun x hx => hlt x (by simp [hx]))) trodAll_mk0)), rfl,
    hg.frame _, fun h => by cases h⟩⟩

theorem over : Rows.diskPlaysRow.holds Try.pinned (OpenSpec.ofChange Rows.diskPlaysSpec) :=
  OpenClaim.holds_of_wide 3 Try.f3 rfl rfl rfl rfl rfl rfl rfl ⟨rfl, rfl, rfl, rfl, rfl⟩ rfl rfl rfl rfl rfl (by kernel_rfl) Try.func3 (by kernel_rfl)
    (of_decide_eq_true (by kernel_rfl)) (by unfold Func.isWrapper; first | (rw [if_pos (by decide +kernel)]; kernel_rfl) | (rw [if_neg (by decide +kernel)]; exact ⟨rfl, rfl⟩))
    (fun os started H enc _ => lifted os started H enc)

/-- The statement. -/
theorem proved : Rows.DiskPlaysSaid :=
  over
#print axioms proved
end Go.Proofs.Ytkgmhliocfbdfaa.diskPlays
