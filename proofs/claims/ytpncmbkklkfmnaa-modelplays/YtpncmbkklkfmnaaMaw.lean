/-
  Proved here: the statements' fixed run (awake), and small.
-/
import Derived.Test.YtpncmbkklkfmnaaMeq
namespace Go.Proofs.Ytpncmbkklkfmnaa
open Go.ChangeShapes Go.WideShapes Go.ChangeAt Go.RowKit
open Go.Deep Go.Maps
set_option linter.unusedVariables false
set_option linter.unusedSimpArgs false
set_option maxRecDepth 20000


theorem index38 (cs : Array Value) (j : Nat) (x : Int) (hj : j < 64) (h : cs[j]? = some (.int .u8 x)) (w : World) : (Instr.index 38 (.agg cs) (.int .i64 j)).run Try.prog w = .ok (.int .u8 x) w := by
  have hs : (sizeOf 5).run Try.prog w = .ok 1 w := by
    cases hq : Try.prog.info? 5 with
    | none => have := size5; simp [hq] at this
    | some i => have := size5; simp [hq] at this; simp [sizeOf, typeInfo, hq, this]
  have hj2 : (j : Int) < 64 := by omega
  unfold Instr.index asIntOf
  simp [Sem.run_bind, run_underlying Try.underlying38, hs, hj2]
  unfold part isAgg
  simp [Sem.run_bind, run_underlying Try.underlying5, h]
  intro q
  omega
theorem index_g {P : Program} {ops : Array Oper} {rest : List Oper} {op : Oper} {a : Act} {w : World} {Q : Exit → Act → World → Prop} (hgd : Region.wanted op (yielded ops a.tmps) = true) (ty : TypeId) (x y : Operand) (ho : op.op = .index ty x y)
    (v0 v1 v : Value) (hx : a.eval x = v0) (hy : a.eval y = v1) (hr : ∀ w, (Instr.index ty v0 v1).run P w = .ok v w) (h : wpList P ops Q rest (a.put op.dst v) w) : wpList P ops Q (op :: rest) a w := by
  refine BigFrame.wpList_want hgd fun K hK => ?_
  unfold Oper.wp execOp
  simp only [ho, hx, hy, Sem.run_bind, hr, Result.andThen_ok, Sem.run_pure]
  exact hK _ _ h
/-- A cell's row that is no block of the machine. -/
def Loc (F : Nat → Prop) (w : World) (k : Nat) (cs : Array Value) (t : TypeId) : Prop := Row w k cs t ∧ ¬ F k
theorem Loc.step {F F' : Nat → Prop} {w w' : World} {k : Nat} {cs : Array Value} {t : TypeId} (h : Loc F w k cs t) (o : Off F w w') (f : ∀ k, k < w.heap.size → F' k → F k) : Loc F' w' k cs t := ⟨h.1.off o h.2, fun q => h.2 (f k h.1.lt q)⟩
theorem Loc.below {F : Nat → Prop} {w w' : World} {k : Nat} {cs : Array Value} {t : TypeId} (h : Loc F w k cs t) (hb : Below w.heap.size w w') : Loc F w' k cs t := ⟨h.1.below hb h.1.lt, h.2⟩
theorem small_any (v : Value) (oa : Option Addr) (n cap : Nat) (hv : v = .slice oa n cap) (hc : n ≤ cap) (hs : n ≤ 9223372036854775807) (w : World) : Calls Try.prog 11 #[v] w fun r w' => (r = .returned (.slice oa (Nat.min n 40) (if n ≤ 40 then cap else cap))) ∧ w' = w := by
  subst hv
  by_cases h : n ≤ 40
  · have h1 : ¬ (n : Int) > 40 := by omega
    have e : Nat.min n 40 = n := Nat.min_eq_left h
    rw [e, if_pos h]
    go_enter Try.func11, Try.ntmps11
    go_wp2
    go_ret
    exact ⟨rfl, rfl⟩
  · have h1 : (n : Int) > 40 := by omega
    have e : Nat.min n 40 = 40 := Nat.min_eq_right (by omega)
    rw [e, if_neg h]
    have hc40 : 40 ≤ cap := by omega
    go_enter Try.func11, Try.ntmps11
    go_wp2
    go_ret
    exact ⟨rfl, rfl⟩
set_option maxHeartbeats 2000000 in
theorem awake_any (w : World) : Calls Try.prog 10 #[] w fun r w' => r = .returned (.bool true) ∧ Below w.heap.size w w' := by
  have hnew : Hid (∀ W, Calls Try.prog 9 #[.int .i64 3, .int .u32 9] W fun e w' => NewM W 3 9 e w') := fun W => new_some 3 (by decide) (by decide) 9 (by decide) (by decide) W
  have hz40 := zero40
  have HZS : Hid (Rep.zero.arr.size = 67) := rz
  generalize Rep.zero.arr = Z at hz40 HZS
  have HD0 : Hid (∀ W F g, MS w F g (newS 3 9) W → Calls Try.prog 12 #[.pointer (some ⟨g, 0, none⟩), .agg #[.int .u8 0, .int .u64 0, .int .u16 0, .int .i64 0, .string ⟨#[]⟩]] W fun r w' => r = .returned (.agg (Rep.mk 0 1 0 (zs 64)).arr) ∧ Step w F g awS1 W w') := fun W F g c => by
    have := c.call aw0 aw_ok.1 (by decide)
    rw [awR0, awT0] at this
    exact this
  have HD1 : Hid (∀ W F g, MS w F g awS1 W → Calls Try.prog 12 #[.pointer (some ⟨g, 0, none⟩), .agg #[.int .u8 2, .int .u64 1, .int .u16 2, .int .i64 1, .string ⟨#[120]⟩]] W fun r w' => r = .returned (.agg Rep.zero.arr) ∧ Step w F g awS2 W w') := fun W F g c => by
    have := c.call aw1 aw_ok.2.1 (by decide)
    rw [awR1, awT1] at this
    exact this
  have HD2 : Hid (∀ W F g, MS w F g awS2 W → Calls Try.prog 12 #[.pointer (some ⟨g, 0, none⟩), .agg #[.int .u8 3, .int .u64 1, .int .u16 0, .int .i64 0, .string ⟨#[]⟩]] W fun r w' => r = .returned (.agg (Rep.mk 0 0 1 (zs 64)).arr) ∧ Step w F g awS3 W w') := fun W F g c => by
    have := c.call aw2 aw_ok.2.2 (by decide)
    rw [awR2, awT2] at this
    exact this
  have HAT : Hid (∀ W F g, MS w F g awS3 W → Calls Try.prog 16 #[.pointer (some ⟨g, 0, none⟩), .int .u16 2, .int .u32 1] W fun r w' => r = .returned (.agg (Ver.mk 1 awB).arr) ∧ MS w F g awS3 w' ∧ Below W.heap.size W w') := fun W F g c => by
    have := c.at_page 2 1 (by decide) (by decide) (by decide)
    rw [if_pos (by decide), awV] at this
    exact this
  have HLA : Hid (∀ W F g, MS w F g awS3 W → Calls Try.prog 14 #[.pointer (some ⟨g, 0, none⟩)] W fun r w' => r = .returned (.int .u32 1) ∧ w' = W) := fun W F g c => c.last
  have HFB : Hid (∀ w, (Instr.field 44 (.agg (Ver.mk 1 awB).arr) 1).run Try.prog w = .ok (.agg (bs awB)) w) := fun w => field44b (v := ⟨1, awB⟩) ⟨by decide, by decide, ⟨awB_len, fun y hy => by have : y ∈ awB := hy; revert y; decide⟩⟩ w
  have HIX : Hid (∀ w, (Instr.index 38 (.agg (bs awB)) (.int .i64 1)).run Try.prog w = .ok (.int .u8 120) w) := fun w => index38 _ 1 120 (by decide) rfl w
  have hbsz : (bs awB).size = 64 := rfl
  obtain ⟨R0, HR0⟩ : ∃ R, Hid ((Rep.mk 0 1 0 (zs 64)).arr = R) := ⟨_, rfl⟩
  have z0 : R0.size = 67 ∧ R0.all (·.oneCell') = true ∧ R0[1]? = some (.int .u64 1) := by rw [← HR0.out]; exact ⟨Rep.arr_size (zs_length _), Rep.one _, rfl⟩
  obtain ⟨R1, HR1⟩ : ∃ R, Hid (Rep.zero.arr = R) := ⟨_, rfl⟩
  have z1 : R1.size = 67 ∧ R1.all (·.oneCell') = true ∧ R1[0]? = some (.int .i64 0) := by rw [← HR1.out]; exact ⟨rz, Rep.one _, rfl⟩
  obtain ⟨R2, HR2⟩ : ∃ R, Hid ((Rep.mk 0 0 1 (zs 64)).arr = R) := ⟨_, rfl⟩
  have z2 : R2.size = 67 ∧ R2.all (·.oneCell') = true ∧ R2[2]? = some (.int .u32 1) := by rw [← HR2.out]; exact ⟨Rep.arr_size (zs_length _), Rep.one _, rfl⟩
  rw [HR0.out] at HD0
  rw [HR1.out] at HD1
  rw [HR2.out] at HD2
  obtain ⟨VA, HVA⟩ : ∃ VA, Hid ((Ver.mk 1 awB).arr = VA) := ⟨_, rfl⟩
  rw [HVA.out] at HAT HFB
  obtain ⟨BA, HBA⟩ : ∃ BA, Hid (bs awB = BA) := ⟨_, rfl⟩
  rw [HBA.out] at HFB HIX hbsz
  have HZ0 : Hid _ := z0
  have HZ1 : Hid _ := z1
  have HZ2 : Hid _ := z2
  have HBZ : Hid _ := hbsz
  clear z0 z1 z2 hbsz
  obtain ⟨PP, HPP⟩ : ∃ PP : Ending → World → Prop, Hid (PP = fun r w' => r = .returned (.bool true) ∧ Below w.heap.size w w') := ⟨_, rfl⟩
  rw [← HPP.out]
  have hn := hnew.out w
  go_enter Try.func10, Try.ntmps10
  go_upto_region 4 with (go_at_call 9; refine Calls.mono hn ?_; clear hn; rintro e W0 hnm; obtain ⟨g, rfl, ms0⟩ := MS.start hnm; clear hnm)
  generalize (fun k => w.heap.size ≤ k ∧ k < W0.heap.size) = F0 at ms0
  have hd := HD0.out W0 F0 g ms0
  have ts : Hid (1 = 1) := rfl
  go_upto_region 5 with (first
    | (go_at_call 12; refine Calls.mono hd ?_; clear hd; rintro e X0 ⟨he, hst⟩; obtain rfl := he; have rn : Row (X0.alloc (.cells Z 40)) X0.heap.size Z 40 := Row.new _ _ _)
    | (have hh := ts; clear hh ts; refine store_cells rfl 40 (.tmp 2) (.tmp 10) rfl X0.heap.size R0 rfl rfl 40 _ rn 67 size40 HZS.out HZ0.out.1 HZ0.out.2.1 ?_))
  obtain ⟨F1, ms1, of0, ff0⟩ := hst
  have bn0 : Below X0.heap.size X0 ((X0.alloc (.cells Z 40)).setRow X0.heap.size R0) := below_setRow ((Below.refl _ _).alloc (Nat.le_refl _) _) (Nat.le_refl _) _
  have L0 : Loc F1 ((X0.alloc (.cells Z 40)).setRow X0.heap.size R0) X0.heap.size R0 40 := ⟨rn.set _, ms1.fresh⟩
  have ms1 := ms1.below bn0
  clear of0 ff0 rn bn0
  generalize (X0.alloc (.cells Z 40)).setRow X0.heap.size R0 = W1 at L0 ms1 ⊢
  generalize X0.heap.size = k0 at L0 ⊢
  have hd := HD1.out W1 F1 g ms1
  have ts : Hid (1 = 1) := rfl
  go_upto_region 6 with (first
    | (go_at_call 12; refine Calls.mono hd ?_; clear hd; rintro e X1 ⟨he, hst⟩; obtain rfl := he; have rn : Row (X1.alloc (.cells Z 40)) X1.heap.size Z 40 := Row.new _ _ _)
    | (have hh := ts; clear hh ts; refine store_cells rfl 40 (.tmp 3) (.tmp 13) rfl X1.heap.size R1 rfl rfl 40 _ rn 67 size40 HZS.out HZ1.out.1 HZ1.out.2.1 ?_))
  obtain ⟨F2, ms2, of1, ff1⟩ := hst
  have bn1 : Below X1.heap.size X1 ((X1.alloc (.cells Z 40)).setRow X1.heap.size R1) := below_setRow ((Below.refl _ _).alloc (Nat.le_refl _) _) (Nat.le_refl _) _
  have L1 : Loc F2 ((X1.alloc (.cells Z 40)).setRow X1.heap.size R1) X1.heap.size R1 40 := ⟨rn.set _, ms2.fresh⟩
  have L0 := (L0.step of1 ff1).below bn1
  have ms2 := ms2.below bn1
  clear of1 ff1 rn bn1
  generalize (X1.alloc (.cells Z 40)).setRow X1.heap.size R1 = W2 at L0 L1 ms2 ⊢
  generalize X1.heap.size = k1 at L1 ⊢
  have hd := HD2.out W2 F2 g ms2
  have ts : Hid (1 = 1) := rfl
  go_upto_region 7 with (first
    | (go_at_call 12; refine Calls.mono hd ?_; clear hd; rintro e X2 ⟨he, hst⟩; obtain rfl := he; have rn : Row (X2.alloc (.cells Z 40)) X2.heap.size Z 40 := Row.new _ _ _)
    | (have hh := ts; clear hh ts; refine store_cells rfl 40 (.tmp 4) (.tmp 16) rfl X2.heap.size R2 rfl rfl 40 _ rn 67 size40 HZS.out HZ2.out.1 HZ2.out.2.1 ?_))
  obtain ⟨F3, ms3, of2, ff2⟩ := hst
  have bn2 : Below X2.heap.size X2 ((X2.alloc (.cells Z 40)).setRow X2.heap.size R2) := below_setRow ((Below.refl _ _).alloc (Nat.le_refl _) _) (Nat.le_refl _) _
  have L2 : Loc F3 ((X2.alloc (.cells Z 40)).setRow X2.heap.size R2) X2.heap.size R2 40 := ⟨rn.set _, ms3.fresh⟩
  have L0 := (L0.step of2 ff2).below bn2
  have L1 := (L1.step of2 ff2).below bn2
  have ms3 := ms3.below bn2
  clear of2 ff2 rn bn2
  generalize (X2.alloc (.cells Z 40)).setRow X2.heap.size R2 = W3 at L0 L1 L2 ms3 ⊢
  generalize X2.heap.size = k2 at L2 ⊢
  have c0 := row_at L0.1 1 _ HZ0.out.2.2
  have c1 := row_at L1.1 0 _ HZ1.out.2.2
  have c2 := row_at L2.1 2 _ HZ2.out.2.2
  have ha := HAT.out W3 F3 g ms3
  have hb0 := ms3.bel
  clear L0 L1 L2
  have tf : Hid (1 = 1) := rfl
  have ti : Hid (1 = 1) := rfl
  go_wp2_with (first
    | (go_at_call 16; refine Calls.mono ha ?_; clear ha; rintro e W4 ⟨he, ms4, hcb⟩; obtain rfl := he; have hl := HLA.out W4 F3 g ms4; have hfin := ms4.bel)
    | (have hh := tf; clear hh tf; refine field_g (by rfl) 44 (.tmp 32) 1 rfl _ _ rfl HFB.out ?_)
    | (have hh := ti; clear hh ti; refine index_g (by rfl) 38 (.tmp 33) (.const (.int .i64 1)) rfl _ _ _ rfl rfl HIX.out ?_)
    | (go_at_call 14; refine Calls.mono hl ?_; clear hl; rintro e W5 ⟨he, hww⟩; rw [hww]; clear hww W5; obtain rfl := he))
  rw [HPP.out]
  exact ⟨rfl, hfin⟩
end Go.Proofs.Ytpncmbkklkfmnaa
