/-
  Proved here: any master has the document's block, or may not be; any block is one's, or none's; so many blocks a store takes (MasterPacks).
-/
import Derived.Test.YtcbjjofckhohjaaMop
import Derived.Test.YtcbjjofckhohjaaMru
namespace Go.Proofs.Ytcbjjofckhohjaa.masterPacks
open Go.ChangeShapes Go.WideShapes Go.ChangeAt Go.RowKit
open Go.Deep
set_option linter.unusedVariables false
set_option linter.unusedSimpArgs false

theorem own : ownKnob Try.prog.godebug = none := by kernel_rfl

set_option maxRecDepth 20000

theorem built27cfg (m : M) : (Try.prog.built 27 [(5, .agg #[.int .i64 m.pg, .int .i64 m.un, .int .i64 m.lg, .int .u32 m.mx])]) = some #[.int .u64 0, .int .u32 0, .int .u32 0, .int .u64 0, .int .u32 0, .int .i64 m.pg, .int .i64 m.un, .int .i64 m.lg, .int .u32 m.mx] := by kernel_rfl
set_option maxHeartbeats 8000000 in
theorem walk (w : World) (m : M) (b : List Int) (hf : m.Fit) (hb : b.length = 256) (hy : Bytes b) :
    Calls Try.prog 3 #[.agg (mcells m), .agg (bs b)] w fun e w' => e = .returned (.bool true) ∧ Below w.heap.size w w' := by
  have HA : Hid _ := awake_any
  have HPA : Hid _ := fun w => mpack_any m hf w
  have HPB : Hid _ := fun w => rpack_any m hf w
  have HUA : Hid _ := fun w => munpack_any b w hb hy
  have HUB : Hid _ := fun w => runpack_any b w hb hy
  have HMM : Hid _ := fun w => mmay_any m w
  have HSZ : Hid _ := fun w => msize_any m w
  have HRC : Hid (∀ w, Calls Try.prog 12 #[.agg #[.int .u64 0, .int .u32 0, .int .u32 0, .int .u64 0, .int .u32 0, .int .i64 m.pg, .int .i64 m.un, .int .i64 m.lg, .int .u32 m.mx]] w fun e w' => e = .returned (.bool (mayM { zm with pg := m.pg, un := m.un, lg := m.lg, mx := m.mx })) ∧ Below w.heap.size w w') := fun w => rmay_any { zm with pg := m.pg, un := m.un, lg := m.lg, mx := m.mx } w
  have HCM := @mayM_of { zm with pg := m.pg, un := m.un, lg := m.lg, mx := m.mx }
  obtain ⟨D, hD⟩ : ∃ x, mayM { zm with pg := m.pg, un := m.un, lg := m.lg, mx := m.mx } = x := ⟨_, rfl⟩
  rw [hD] at HRC HSZ HCM
  clear hD
  obtain ⟨X, HX⟩ : ∃ x, Hid (packV m = x) := ⟨_, rfl⟩
  obtain ⟨E, HE⟩ : ∃ x, Hid (packE m = x) := ⟨_, rfl⟩
  obtain ⟨u, HU⟩ : ∃ x, Hid (gotM b = x) := ⟨_, rfl⟩
  obtain ⟨f, HF⟩ : ∃ x, Hid (isM b = x) := ⟨_, rfl⟩
  obtain ⟨C, HC⟩ : ∃ x, mayM m = x := ⟨_, rfl⟩
  rw [HX.out, HE.out] at HPA
  rw [HX.out, HC] at HPB
  rw [HU.out, HF.out] at HUA HUB
  rw [HC] at HMM
  have HXL : Hid (X.length = 256) := by show _ = _; rw [← HX.out]; exact packV_length m
  have hXb : (bs X).size = 256 := by rw [bs_size, HXL.out]
  have hbb : (bs b).size = 256 := by rw [bs_size, hb]
  have heq : ∀ w, (Op.equalIn 10000 29 (.agg (bs X)) (.agg (bs X))).run Try.prog w = .ok true w := fun w => by
    have h := equal29 X X HXL.out HXL.out w
    rw [decide_eq_true rfl] at h; exact h
  have heu : ∀ w, (Op.equalIn 10000 27 (.agg #[.int .u64 u.seq, .int .u32 u.ep, .int .u32 u.tail, .int .u64 u.lsn, .int .u32 u.last, .int .i64 u.pg, .int .i64 u.un, .int .i64 u.lg, .int .u32 u.mx]) (.agg #[.int .u64 u.seq, .int .u32 u.ep, .int .u32 u.tail, .int .u64 u.lsn, .int .u32 u.last, .int .i64 u.pg, .int .i64 u.un, .int .i64 u.lg, .int .u32 u.mx])).run Try.prog w = .ok true w := fun w => by
    have := equal27 u u w
    rw [eqM_self] at this; exact this
  have hz := zero27
  have hz2 := zero29
  have r0 : Row ((w.alloc (.cells #[.int .u64 m.seq, .int .u32 m.ep, .int .u32 m.tail, .int .u64 m.lsn, .int .u32 m.last, .int .i64 m.pg, .int .i64 m.un, .int .i64 m.lg, .int .u32 m.mx] 27)).alloc (.cells (bs b) 29)) w.heap.size #[.int .u64 m.seq, .int .u32 m.ep, .int .u32 m.tail, .int .u64 m.lsn, .int .u32 m.last, .int .i64 m.pg, .int .i64 m.un, .int .i64 m.lg, .int .u32 m.mx] 27 := (Row.new _ _ _).alloc _
  have r1 : Row ((w.alloc (.cells #[.int .u64 m.seq, .int .u32 m.ep, .int .u32 m.tail, .int .u64 m.lsn, .int .u32 m.last, .int .i64 m.pg, .int .i64 m.un, .int .i64 m.lg, .int .u32 m.mx] 27)).alloc (.cells (bs b) 29)) (w.heap.size + 1) (bs b) 29 := by have := Row.new (w.alloc (.cells #[.int .u64 m.seq, .int .u32 m.ep, .int .u32 m.tail, .int .u64 m.lsn, .int .u32 m.last, .int .i64 m.pg, .int .i64 m.un, .int .i64 m.lg, .int .u32 m.mx] 27)) (bs b) 29; simpa using this
  have wb : Below w.heap.size w ((w.alloc (.cells #[.int .u64 m.seq, .int .u32 m.ep, .int .u32 m.tail, .int .u64 m.lsn, .int .u32 m.last, .int .i64 m.pg, .int .i64 m.un, .int .i64 m.lg, .int .u32 m.mx] 27)).alloc (.cells (bs b) 29)) := ((Below.refl _ _).alloc (Nat.le_refl _) _).alloc (by simp) _
  clear hb hy hf
  go_enter Try.func3, Try.ntmps3
  go_upto_region 1 with fail
  generalize (w.alloc (.cells #[.int .u64 m.seq, .int .u32 m.ep, .int .u32 m.tail, .int .u64 m.lsn, .int .u32 m.last, .int .i64 m.pg, .int .i64 m.un, .int .i64 m.lg, .int .u32 m.mx] 27)).alloc (.cells (bs b) 29) = w1 at r0 r1 wb ⊢
  go_upto_region 2 with (first
    | (refine load_cells rfl 27 (.tmp 2) rfl w.heap.size rfl 27 #[.int .u64 m.seq, .int .u32 m.ep, .int .u32 m.tail, .int .u64 m.lsn, .int .u32 m.last, .int .i64 m.pg, .int .i64 m.un, .int .i64 m.lg, .int .u32 m.mx] r0 9 Try.underlying27 rfl size27 rfl ?_)
    | (go_at_call 8; refine (HPA.out _).mono ?_; clear HPA; rintro ex w2 ⟨rfl, h2⟩
       have qx : Row (w2.alloc (.cells (bs (zs 256)) 29)) w2.heap.size (bs (zs 256)) 29 := Row.new _ _ _)
    | (refine store_row rfl 29 (.tmp 5) (.tmp 17) rfl w2.heap.size X rfl rfl 29 _ qx 256 size29 (by rw [bs_size, zs_length]) HXL.out ?_))
  have r0 := r0.below h2 r0.lt
  have r1 := r1.below h2 r1.lt
  have lgxr0 := r0.lt
  have lgxr1 := r1.lt
  have wb := wb.trans (h2.mono wb.size)
  have r0 := (r0.alloc (.cells (bs (zs 256)) 29)).other (g := w2.heap.size) (by omega) (bs X)
  have r1 := (r1.alloc (.cells (bs (zs 256)) 29)).other (g := w2.heap.size) (by omega) (bs X)
  have qx := qx.set (bs X)
  have wb := below_setRow (wb.alloc wb.size (.cells (bs (zs 256)) 29)) wb.size (bs X)
  clear h2
  show Code.wp _ _ _ _ ((w2.alloc (.cells (bs (zs 256)) 29)).setRow w2.heap.size (bs X))
  generalize (w2.alloc (.cells (bs (zs 256)) 29)).setRow w2.heap.size (bs X) = w2x at r0 r1 qx wb ⊢
  generalize w2.heap.size = gx at qx lgxr0 lgxr1 ⊢
  go_upto_region 3 with (first
    | (refine load_cells rfl 27 (.tmp 2) rfl w.heap.size rfl 27 #[.int .u64 m.seq, .int .u32 m.ep, .int .u32 m.tail, .int .u64 m.lsn, .int .u32 m.last, .int .i64 m.pg, .int .i64 m.un, .int .i64 m.lg, .int .u32 m.mx] r0 9 Try.underlying27 rfl size27 rfl ?_)
    | (go_at_call 9; refine (HPB.out _).mono ?_; clear HPB; rintro ex w3 ⟨rfl, h3⟩
       have qy : Row (w3.alloc (.cells (bs (zs 256)) 29)) w3.heap.size (bs (zs 256)) 29 := Row.new _ _ _)
    | (refine store_row rfl 29 (.tmp 7) (.tmp 22) rfl w3.heap.size X rfl rfl 29 _ qy 256 size29 (by rw [bs_size, zs_length]) HXL.out ?_))
  have r0 := r0.below h3 r0.lt
  have r1 := r1.below h3 r1.lt
  have qx := qx.below h3 qx.lt
  have lgyr0 := r0.lt
  have lgyr1 := r1.lt
  have lgyqx := qx.lt
  have wb := wb.trans (h3.mono wb.size)
  have r0 := (r0.alloc (.cells (bs (zs 256)) 29)).other (g := w3.heap.size) (by omega) (bs X)
  have r1 := (r1.alloc (.cells (bs (zs 256)) 29)).other (g := w3.heap.size) (by omega) (bs X)
  have qx := (qx.alloc (.cells (bs (zs 256)) 29)).other (g := w3.heap.size) (by omega) (bs X)
  have qy := qy.set (bs X)
  have wb := below_setRow (wb.alloc wb.size (.cells (bs (zs 256)) 29)) wb.size (bs X)
  clear h3
  show Code.wp _ _ _ _ ((w3.alloc (.cells (bs (zs 256)) 29)).setRow w3.heap.size (bs X))
  generalize (w3.alloc (.cells (bs (zs 256)) 29)).setRow w3.heap.size (bs X) = w3x at r0 r1 qx qy wb ⊢
  generalize w3.heap.size = gy at qy lgyr0 lgyr1 lgyqx ⊢
  go_upto_region 4 with (first
    | (refine load_row rfl 29 (.tmp 3) rfl (w.heap.size + 1) rfl 29 (bs b) r1 256 5 Try.underlying29 size29 hbb ?_)
    | (go_at_call 10; refine (HUA.out _).mono ?_; clear HUA; rintro ex w4 ⟨rfl, h4⟩
       have qu : Row (w4.alloc (.cells #[.int .u64 0, .int .u32 0, .int .u32 0, .int .u64 0, .int .u32 0, .int .i64 0, .int .i64 0, .int .i64 0, .int .u32 0] 27)) w4.heap.size #[.int .u64 0, .int .u32 0, .int .u32 0, .int .u64 0, .int .u32 0, .int .i64 0, .int .i64 0, .int .i64 0, .int .u32 0] 27 := Row.new _ _ _)
    | (refine store_cells rfl 27 (.tmp 9) (.tmp 27) rfl w4.heap.size #[.int .u64 u.seq, .int .u32 u.ep, .int .u32 u.tail, .int .u64 u.lsn, .int .u32 u.last, .int .i64 u.pg, .int .i64 u.un, .int .i64 u.lg, .int .u32 u.mx] rfl rfl 27 _ qu 9 size27 rfl rfl (by simp [Value.oneCell']) ?_))
  have r0 := r0.below h4 r0.lt
  have r1 := r1.below h4 r1.lt
  have qx := qx.below h4 qx.lt
  have qy := qy.below h4 qy.lt
  have lgur0 := r0.lt
  have lgur1 := r1.lt
  have lguqx := qx.lt
  have lguqy := qy.lt
  have wb := wb.trans (h4.mono wb.size)
  have r0 := (r0.alloc (.cells #[.int .u64 0, .int .u32 0, .int .u32 0, .int .u64 0, .int .u32 0, .int .i64 0, .int .i64 0, .int .i64 0, .int .u32 0] 27)).other (g := w4.heap.size) (by omega) #[.int .u64 u.seq, .int .u32 u.ep, .int .u32 u.tail, .int .u64 u.lsn, .int .u32 u.last, .int .i64 u.pg, .int .i64 u.un, .int .i64 u.lg, .int .u32 u.mx]
  have r1 := (r1.alloc (.cells #[.int .u64 0, .int .u32 0, .int .u32 0, .int .u64 0, .int .u32 0, .int .i64 0, .int .i64 0, .int .i64 0, .int .u32 0] 27)).other (g := w4.heap.size) (by omega) #[.int .u64 u.seq, .int .u32 u.ep, .int .u32 u.tail, .int .u64 u.lsn, .int .u32 u.last, .int .i64 u.pg, .int .i64 u.un, .int .i64 u.lg, .int .u32 u.mx]
  have qx := (qx.alloc (.cells #[.int .u64 0, .int .u32 0, .int .u32 0, .int .u64 0, .int .u32 0, .int .i64 0, .int .i64 0, .int .i64 0, .int .u32 0] 27)).other (g := w4.heap.size) (by omega) #[.int .u64 u.seq, .int .u32 u.ep, .int .u32 u.tail, .int .u64 u.lsn, .int .u32 u.last, .int .i64 u.pg, .int .i64 u.un, .int .i64 u.lg, .int .u32 u.mx]
  have qy := (qy.alloc (.cells #[.int .u64 0, .int .u32 0, .int .u32 0, .int .u64 0, .int .u32 0, .int .i64 0, .int .i64 0, .int .i64 0, .int .u32 0] 27)).other (g := w4.heap.size) (by omega) #[.int .u64 u.seq, .int .u32 u.ep, .int .u32 u.tail, .int .u64 u.lsn, .int .u32 u.last, .int .i64 u.pg, .int .i64 u.un, .int .i64 u.lg, .int .u32 u.mx]
  have qu := qu.set #[.int .u64 u.seq, .int .u32 u.ep, .int .u32 u.tail, .int .u64 u.lsn, .int .u32 u.last, .int .i64 u.pg, .int .i64 u.un, .int .i64 u.lg, .int .u32 u.mx]
  have wb := below_setRow (wb.alloc wb.size (.cells #[.int .u64 0, .int .u32 0, .int .u32 0, .int .u64 0, .int .u32 0, .int .i64 0, .int .i64 0, .int .i64 0, .int .u32 0] 27)) wb.size #[.int .u64 u.seq, .int .u32 u.ep, .int .u32 u.tail, .int .u64 u.lsn, .int .u32 u.last, .int .i64 u.pg, .int .i64 u.un, .int .i64 u.lg, .int .u32 u.mx]
  clear h4
  show Code.wp _ _ _ _ ((w4.alloc (.cells #[.int .u64 0, .int .u32 0, .int .u32 0, .int .u64 0, .int .u32 0, .int .i64 0, .int .i64 0, .int .i64 0, .int .u32 0] 27)).setRow w4.heap.size #[.int .u64 u.seq, .int .u32 u.ep, .int .u32 u.tail, .int .u64 u.lsn, .int .u32 u.last, .int .i64 u.pg, .int .i64 u.un, .int .i64 u.lg, .int .u32 u.mx])
  generalize (w4.alloc (.cells #[.int .u64 0, .int .u32 0, .int .u32 0, .int .u64 0, .int .u32 0, .int .i64 0, .int .i64 0, .int .i64 0, .int .u32 0] 27)).setRow w4.heap.size #[.int .u64 u.seq, .int .u32 u.ep, .int .u32 u.tail, .int .u64 u.lsn, .int .u32 u.last, .int .i64 u.pg, .int .i64 u.un, .int .i64 u.lg, .int .u32 u.mx] = w4x at r0 r1 qx qy qu wb ⊢
  generalize w4.heap.size = gu at qu lgur0 lgur1 lguqx lguqy ⊢
  go_upto_region 5 with (first
    | (refine load_row rfl 29 (.tmp 3) rfl (w.heap.size + 1) rfl 29 (bs b) r1 256 5 Try.underlying29 size29 hbb ?_)
    | (go_at_call 11; refine (HUB.out _).mono ?_; clear HUB; rintro ex w5 ⟨rfl, h5⟩
       have qv : Row (w5.alloc (.cells #[.int .u64 0, .int .u32 0, .int .u32 0, .int .u64 0, .int .u32 0, .int .i64 0, .int .i64 0, .int .i64 0, .int .u32 0] 27)) w5.heap.size #[.int .u64 0, .int .u32 0, .int .u32 0, .int .u64 0, .int .u32 0, .int .i64 0, .int .i64 0, .int .i64 0, .int .u32 0] 27 := Row.new _ _ _)
    | (refine store_cells rfl 27 (.tmp 11) (.tmp 32) rfl w5.heap.size #[.int .u64 u.seq, .int .u32 u.ep, .int .u32 u.tail, .int .u64 u.lsn, .int .u32 u.last, .int .i64 u.pg, .int .i64 u.un, .int .i64 u.lg, .int .u32 u.mx] rfl rfl 27 _ qv 9 size27 rfl rfl (by simp [Value.oneCell']) ?_))
  have r0 := r0.below h5 r0.lt
  have r1 := r1.below h5 r1.lt
  have qx := qx.below h5 qx.lt
  have qy := qy.below h5 qy.lt
  have qu := qu.below h5 qu.lt
  have lgvr0 := r0.lt
  have lgvr1 := r1.lt
  have lgvqx := qx.lt
  have lgvqy := qy.lt
  have lgvqu := qu.lt
  have wb := wb.trans (h5.mono wb.size)
  have r0 := (r0.alloc (.cells #[.int .u64 0, .int .u32 0, .int .u32 0, .int .u64 0, .int .u32 0, .int .i64 0, .int .i64 0, .int .i64 0, .int .u32 0] 27)).other (g := w5.heap.size) (by omega) #[.int .u64 u.seq, .int .u32 u.ep, .int .u32 u.tail, .int .u64 u.lsn, .int .u32 u.last, .int .i64 u.pg, .int .i64 u.un, .int .i64 u.lg, .int .u32 u.mx]
  have r1 := (r1.alloc (.cells #[.int .u64 0, .int .u32 0, .int .u32 0, .int .u64 0, .int .u32 0, .int .i64 0, .int .i64 0, .int .i64 0, .int .u32 0] 27)).other (g := w5.heap.size) (by omega) #[.int .u64 u.seq, .int .u32 u.ep, .int .u32 u.tail, .int .u64 u.lsn, .int .u32 u.last, .int .i64 u.pg, .int .i64 u.un, .int .i64 u.lg, .int .u32 u.mx]
  have qx := (qx.alloc (.cells #[.int .u64 0, .int .u32 0, .int .u32 0, .int .u64 0, .int .u32 0, .int .i64 0, .int .i64 0, .int .i64 0, .int .u32 0] 27)).other (g := w5.heap.size) (by omega) #[.int .u64 u.seq, .int .u32 u.ep, .int .u32 u.tail, .int .u64 u.lsn, .int .u32 u.last, .int .i64 u.pg, .int .i64 u.un, .int .i64 u.lg, .int .u32 u.mx]
  have qy := (qy.alloc (.cells #[.int .u64 0, .int .u32 0, .int .u32 0, .int .u64 0, .int .u32 0, .int .i64 0, .int .i64 0, .int .i64 0, .int .u32 0] 27)).other (g := w5.heap.size) (by omega) #[.int .u64 u.seq, .int .u32 u.ep, .int .u32 u.tail, .int .u64 u.lsn, .int .u32 u.last, .int .i64 u.pg, .int .i64 u.un, .int .i64 u.lg, .int .u32 u.mx]
  have qu := (qu.alloc (.cells #[.int .u64 0, .int .u32 0, .int .u32 0, .int .u64 0, .int .u32 0, .int .i64 0, .int .i64 0, .int .i64 0, .int .u32 0] 27)).other (g := w5.heap.size) (by omega) #[.int .u64 u.seq, .int .u32 u.ep, .int .u32 u.tail, .int .u64 u.lsn, .int .u32 u.last, .int .i64 u.pg, .int .i64 u.un, .int .i64 u.lg, .int .u32 u.mx]
  have qv := qv.set #[.int .u64 u.seq, .int .u32 u.ep, .int .u32 u.tail, .int .u64 u.lsn, .int .u32 u.last, .int .i64 u.pg, .int .i64 u.un, .int .i64 u.lg, .int .u32 u.mx]
  have wb := below_setRow (wb.alloc wb.size (.cells #[.int .u64 0, .int .u32 0, .int .u32 0, .int .u64 0, .int .u32 0, .int .i64 0, .int .i64 0, .int .i64 0, .int .u32 0] 27)) wb.size #[.int .u64 u.seq, .int .u32 u.ep, .int .u32 u.tail, .int .u64 u.lsn, .int .u32 u.last, .int .i64 u.pg, .int .i64 u.un, .int .i64 u.lg, .int .u32 u.mx]
  clear h5
  show Code.wp _ _ _ _ ((w5.alloc (.cells #[.int .u64 0, .int .u32 0, .int .u32 0, .int .u64 0, .int .u32 0, .int .i64 0, .int .i64 0, .int .i64 0, .int .u32 0] 27)).setRow w5.heap.size #[.int .u64 u.seq, .int .u32 u.ep, .int .u32 u.tail, .int .u64 u.lsn, .int .u32 u.last, .int .i64 u.pg, .int .i64 u.un, .int .i64 u.lg, .int .u32 u.mx])
  generalize (w5.alloc (.cells #[.int .u64 0, .int .u32 0, .int .u32 0, .int .u64 0, .int .u32 0, .int .i64 0, .int .i64 0, .int .i64 0, .int .u32 0] 27)).setRow w5.heap.size #[.int .u64 u.seq, .int .u32 u.ep, .int .u32 u.tail, .int .u64 u.lsn, .int .u32 u.last, .int .i64 u.pg, .int .i64 u.un, .int .i64 u.lg, .int .u32 u.mx] = w5x at r0 r1 qx qy qu qv wb ⊢
  generalize w5.heap.size = gv at qv lgvr0 lgvr1 lgvqx lgvqy lgvqu ⊢
  have c5 := row_at r0 5 (.int .i64 m.pg) rfl
  have c6 := row_at r0 6 (.int .i64 m.un) rfl
  have c7 := row_at r0 7 (.int .i64 m.lg) rfl
  have c8 := row_at r0 8 (.int .u32 m.mx) rfl
  cases D
  · clear HCM
    cases C
    · obtain rfl : E = 1 := by rw [← HE.out]; unfold packE; rw [HC]; rfl
      clear HC HE HX HU HF
      go_wp2_with (first
        | (go_at_call 12; refine (HRC.out _).mono ?_; clear HRC; rintro ex wc ⟨rfl, hc⟩
           have r0 := r0.below hc r0.lt; have qx := qx.below hc qx.lt; have qy := qy.below hc qy.lt; have qu := qu.below hc qu.lt; have qv := qv.below hc qv.lt; have wb := wb.trans (hc.mono wb.size); clear hc c5 c6 c7 c8; have c5 := row_at r0 5 (.int .i64 m.pg) rfl; have c6 := row_at r0 6 (.int .i64 m.un) rfl; have c7 := row_at r0 7 (.int .i64 m.lg) rfl; have c8 := row_at r0 8 (.int .u32 m.mx) rfl)
        | (refine build_parts rfl 27 #[(5, .tmp 35)] rfl [(5, .agg #[.int .i64 m.pg, .int .i64 m.un, .int .i64 m.lg, .int .u32 m.mx])] rfl _ (built27cfg m) ?_)
        | (refine load_row rfl 29 (.tmp 5) rfl gx rfl 29 (bs X) qx 256 5 Try.underlying29 size29 hXb ?_)
        | (refine load_row rfl 29 (.tmp 7) rfl gy rfl 29 (bs X) qy 256 5 Try.underlying29 size29 hXb ?_)
        | (refine load_cells_g rfl 27 (.tmp 2) rfl w.heap.size rfl 27 #[.int .u64 m.seq, .int .u32 m.ep, .int .u32 m.tail, .int .u64 m.lsn, .int .u32 m.last, .int .i64 m.pg, .int .i64 m.un, .int .i64 m.lg, .int .u32 m.mx] r0 9 Try.underlying27 rfl size27 rfl ?_)
        | (refine load_cells_g rfl 27 (.tmp 9) rfl gu rfl 27 #[.int .u64 u.seq, .int .u32 u.ep, .int .u32 u.tail, .int .u64 u.lsn, .int .u32 u.last, .int .i64 u.pg, .int .i64 u.un, .int .i64 u.lg, .int .u32 u.mx] qu 9 Try.underlying27 rfl size27 rfl ?_)
        | (refine load_cells_g rfl 27 (.tmp 11) rfl gv rfl 27 #[.int .u64 u.seq, .int .u32 u.ep, .int .u32 u.tail, .int .u64 u.lsn, .int .u32 u.last, .int .i64 u.pg, .int .i64 u.un, .int .i64 u.lg, .int .u32 u.mx] qv 9 Try.underlying27 rfl size27 rfl ?_)
        | (go_at_call 13; refine (HMM.out _).mono ?_; clear HMM; rintro ex wd ⟨rfl, hd⟩
           have r0 := r0.below hd r0.lt; have qu := qu.below hd qu.lt; have qv := qv.below hd qv.lt; have wb := wb.trans (hd.mono wb.size); clear hd c5 c6 c7 c8; have c5 := row_at r0 5 (.int .i64 m.pg) rfl; have c6 := row_at r0 6 (.int .i64 m.un) rfl; have c7 := row_at r0 7 (.int .i64 m.lg) rfl; have c8 := row_at r0 8 (.int .u32 m.mx) rfl)
        | (go_at_call 14; refine (HSZ.out _).mono ?_; clear HSZ; rintro ex we ⟨rfl, he⟩; have wb := wb.trans (he.mono wb.size))
        | (go_at_call 15; refine (HA.out _).mono ?_; clear HA; rintro ex wf ⟨rfl, hf⟩; have wb := wb.trans (hf.mono wb.size)))
      go_ret
      exact ⟨rfl, wb⟩
    · obtain rfl : E = 0 := by rw [← HE.out]; unfold packE; rw [HC]; rfl
      clear HC HE HX HU HF
      go_wp2_with (first
        | (go_at_call 12; refine (HRC.out _).mono ?_; clear HRC; rintro ex wc ⟨rfl, hc⟩
           have r0 := r0.below hc r0.lt; have qx := qx.below hc qx.lt; have qy := qy.below hc qy.lt; have qu := qu.below hc qu.lt; have qv := qv.below hc qv.lt; have wb := wb.trans (hc.mono wb.size); clear hc c5 c6 c7 c8; have c5 := row_at r0 5 (.int .i64 m.pg) rfl; have c6 := row_at r0 6 (.int .i64 m.un) rfl; have c7 := row_at r0 7 (.int .i64 m.lg) rfl; have c8 := row_at r0 8 (.int .u32 m.mx) rfl)
        | (refine build_parts rfl 27 #[(5, .tmp 35)] rfl [(5, .agg #[.int .i64 m.pg, .int .i64 m.un, .int .i64 m.lg, .int .u32 m.mx])] rfl _ (built27cfg m) ?_)
        | (refine load_row rfl 29 (.tmp 5) rfl gx rfl 29 (bs X) qx 256 5 Try.underlying29 size29 hXb ?_)
        | (refine load_row rfl 29 (.tmp 7) rfl gy rfl 29 (bs X) qy 256 5 Try.underlying29 size29 hXb ?_)
        | (refine load_cells_g rfl 27 (.tmp 2) rfl w.heap.size rfl 27 #[.int .u64 m.seq, .int .u32 m.ep, .int .u32 m.tail, .int .u64 m.lsn, .int .u32 m.last, .int .i64 m.pg, .int .i64 m.un, .int .i64 m.lg, .int .u32 m.mx] r0 9 Try.underlying27 rfl size27 rfl ?_)
        | (refine load_cells_g rfl 27 (.tmp 9) rfl gu rfl 27 #[.int .u64 u.seq, .int .u32 u.ep, .int .u32 u.tail, .int .u64 u.lsn, .int .u32 u.last, .int .i64 u.pg, .int .i64 u.un, .int .i64 u.lg, .int .u32 u.mx] qu 9 Try.underlying27 rfl size27 rfl ?_)
        | (refine load_cells_g rfl 27 (.tmp 11) rfl gv rfl 27 #[.int .u64 u.seq, .int .u32 u.ep, .int .u32 u.tail, .int .u64 u.lsn, .int .u32 u.last, .int .i64 u.pg, .int .i64 u.un, .int .i64 u.lg, .int .u32 u.mx] qv 9 Try.underlying27 rfl size27 rfl ?_)
        | (go_at_call 13; refine (HMM.out _).mono ?_; clear HMM; rintro ex wd ⟨rfl, hd⟩
           have r0 := r0.below hd r0.lt; have qu := qu.below hd qu.lt; have qv := qv.below hd qv.lt; have wb := wb.trans (hd.mono wb.size); clear hd c5 c6 c7 c8; have c5 := row_at r0 5 (.int .i64 m.pg) rfl; have c6 := row_at r0 6 (.int .i64 m.un) rfl; have c7 := row_at r0 7 (.int .i64 m.lg) rfl; have c8 := row_at r0 8 (.int .u32 m.mx) rfl)
        | (go_at_call 14; refine (HSZ.out _).mono ?_; clear HSZ; rintro ex we ⟨rfl, he⟩; have wb := wb.trans (he.mono wb.size))
        | (go_at_call 15; refine (HA.out _).mono ?_; clear HA; rintro ex wf ⟨rfl, hf⟩; have wb := wb.trans (hf.mono wb.size)))
      go_ret
      exact ⟨rfl, wb⟩
  · obtain ⟨m1, m2, m3, m4⟩ := HCM rfl
    have a1 : IntKind.i64.wrap (m.pg + m.un) = m.pg + m.un := by rw [IntKind.wrap_i64]; omega
    have a2 : IntKind.i64.wrap (m.pg + m.un + m.lg) = m.pg + m.un + m.lg := by rw [IntKind.wrap_i64]; omega
    have a3 : IntKind.i64.wrap (m.pg + m.un + m.lg + 2) = 2 + m.pg + m.un + m.lg := by rw [IntKind.wrap_i64]; omega
    clear m1 m2 m3 m4 HCM
    cases C
    · obtain rfl : E = 1 := by rw [← HE.out]; unfold packE; rw [HC]; rfl
      clear HC HE HX HU HF
      go_wp2_with (first
        | (go_at_call 12; refine (HRC.out _).mono ?_; clear HRC; rintro ex wc ⟨rfl, hc⟩
           have r0 := r0.below hc r0.lt; have qx := qx.below hc qx.lt; have qy := qy.below hc qy.lt; have qu := qu.below hc qu.lt; have qv := qv.below hc qv.lt; have wb := wb.trans (hc.mono wb.size); clear hc c5 c6 c7 c8; have c5 := row_at r0 5 (.int .i64 m.pg) rfl; have c6 := row_at r0 6 (.int .i64 m.un) rfl; have c7 := row_at r0 7 (.int .i64 m.lg) rfl; have c8 := row_at r0 8 (.int .u32 m.mx) rfl)
        | (refine build_parts rfl 27 #[(5, .tmp 35)] rfl [(5, .agg #[.int .i64 m.pg, .int .i64 m.un, .int .i64 m.lg, .int .u32 m.mx])] rfl _ (built27cfg m) ?_)
        | (refine load_row rfl 29 (.tmp 5) rfl gx rfl 29 (bs X) qx 256 5 Try.underlying29 size29 hXb ?_)
        | (refine load_row rfl 29 (.tmp 7) rfl gy rfl 29 (bs X) qy 256 5 Try.underlying29 size29 hXb ?_)
        | (refine load_cells_g rfl 27 (.tmp 2) rfl w.heap.size rfl 27 #[.int .u64 m.seq, .int .u32 m.ep, .int .u32 m.tail, .int .u64 m.lsn, .int .u32 m.last, .int .i64 m.pg, .int .i64 m.un, .int .i64 m.lg, .int .u32 m.mx] r0 9 Try.underlying27 rfl size27 rfl ?_)
        | (refine load_cells_g rfl 27 (.tmp 9) rfl gu rfl 27 #[.int .u64 u.seq, .int .u32 u.ep, .int .u32 u.tail, .int .u64 u.lsn, .int .u32 u.last, .int .i64 u.pg, .int .i64 u.un, .int .i64 u.lg, .int .u32 u.mx] qu 9 Try.underlying27 rfl size27 rfl ?_)
        | (refine load_cells_g rfl 27 (.tmp 11) rfl gv rfl 27 #[.int .u64 u.seq, .int .u32 u.ep, .int .u32 u.tail, .int .u64 u.lsn, .int .u32 u.last, .int .i64 u.pg, .int .i64 u.un, .int .i64 u.lg, .int .u32 u.mx] qv 9 Try.underlying27 rfl size27 rfl ?_)
        | (go_at_call 13; refine (HMM.out _).mono ?_; clear HMM; rintro ex wd ⟨rfl, hd⟩
           have r0 := r0.below hd r0.lt; have qu := qu.below hd qu.lt; have qv := qv.below hd qv.lt; have wb := wb.trans (hd.mono wb.size); clear hd c5 c6 c7 c8; have c5 := row_at r0 5 (.int .i64 m.pg) rfl; have c6 := row_at r0 6 (.int .i64 m.un) rfl; have c7 := row_at r0 7 (.int .i64 m.lg) rfl; have c8 := row_at r0 8 (.int .u32 m.mx) rfl)
        | (go_at_call 14; refine (HSZ.out _).mono ?_; clear HSZ; rintro ex we ⟨rfl, he⟩; have wb := wb.trans (he.mono wb.size))
        | (go_at_call 15; refine (HA.out _).mono ?_; clear HA; rintro ex wf ⟨rfl, hf⟩; have wb := wb.trans (hf.mono wb.size)))
      go_ret
      exact ⟨rfl, wb⟩
    · obtain rfl : E = 0 := by rw [← HE.out]; unfold packE; rw [HC]; rfl
      clear HC HE HX HU HF
      go_wp2_with (first
        | (go_at_call 12; refine (HRC.out _).mono ?_; clear HRC; rintro ex wc ⟨rfl, hc⟩
           have r0 := r0.below hc r0.lt; have qx := qx.below hc qx.lt; have qy := qy.below hc qy.lt; have qu := qu.below hc qu.lt; have qv := qv.below hc qv.lt; have wb := wb.trans (hc.mono wb.size); clear hc c5 c6 c7 c8; have c5 := row_at r0 5 (.int .i64 m.pg) rfl; have c6 := row_at r0 6 (.int .i64 m.un) rfl; have c7 := row_at r0 7 (.int .i64 m.lg) rfl; have c8 := row_at r0 8 (.int .u32 m.mx) rfl)
        | (refine build_parts rfl 27 #[(5, .tmp 35)] rfl [(5, .agg #[.int .i64 m.pg, .int .i64 m.un, .int .i64 m.lg, .int .u32 m.mx])] rfl _ (built27cfg m) ?_)
        | (refine load_row rfl 29 (.tmp 5) rfl gx rfl 29 (bs X) qx 256 5 Try.underlying29 size29 hXb ?_)
        | (refine load_row rfl 29 (.tmp 7) rfl gy rfl 29 (bs X) qy 256 5 Try.underlying29 size29 hXb ?_)
        | (refine load_cells_g rfl 27 (.tmp 2) rfl w.heap.size rfl 27 #[.int .u64 m.seq, .int .u32 m.ep, .int .u32 m.tail, .int .u64 m.lsn, .int .u32 m.last, .int .i64 m.pg, .int .i64 m.un, .int .i64 m.lg, .int .u32 m.mx] r0 9 Try.underlying27 rfl size27 rfl ?_)
        | (refine load_cells_g rfl 27 (.tmp 9) rfl gu rfl 27 #[.int .u64 u.seq, .int .u32 u.ep, .int .u32 u.tail, .int .u64 u.lsn, .int .u32 u.last, .int .i64 u.pg, .int .i64 u.un, .int .i64 u.lg, .int .u32 u.mx] qu 9 Try.underlying27 rfl size27 rfl ?_)
        | (refine load_cells_g rfl 27 (.tmp 11) rfl gv rfl 27 #[.int .u64 u.seq, .int .u32 u.ep, .int .u32 u.tail, .int .u64 u.lsn, .int .u32 u.last, .int .i64 u.pg, .int .i64 u.un, .int .i64 u.lg, .int .u32 u.mx] qv 9 Try.underlying27 rfl size27 rfl ?_)
        | (go_at_call 13; refine (HMM.out _).mono ?_; clear HMM; rintro ex wd ⟨rfl, hd⟩
           have r0 := r0.below hd r0.lt; have qu := qu.below hd qu.lt; have qv := qv.below hd qv.lt; have wb := wb.trans (hd.mono wb.size); clear hd c5 c6 c7 c8; have c5 := row_at r0 5 (.int .i64 m.pg) rfl; have c6 := row_at r0 6 (.int .i64 m.un) rfl; have c7 := row_at r0 7 (.int .i64 m.lg) rfl; have c8 := row_at r0 8 (.int .u32 m.mx) rfl)
        | (go_at_call 14; refine (HSZ.out _).mono ?_; clear HSZ; rintro ex we ⟨rfl, he⟩; have wb := wb.trans (he.mono wb.size))
        | (go_at_call 15; refine (HA.out _).mono ?_; clear HA; rintro ex wf ⟨rfl, hf⟩; have wb := wb.trans (hf.mono wb.size)))
      go_ret
      exact ⟨rfl, wb⟩

set_option maxRecDepth 100000 in
theorem lifted (os : Os) (started : os.Started) (H : Type) (enc : TypeId × Value → H) :
    ReturnsInHanded {} Try.checked os 3 .any (Rows.masterPacksSpec.pre6 enc Try.prog Try.f3 Rows.masterPacksRow.domain false) (Rows.masterPacksSpec.post enc Try.prog Try.f3 false true false false) := by
  refine returnsInHanded_of_change_sized (C := Try.checked) own started (by kernel_rfl) Try.func3
    (ChangeSpec.witness6 (enc := enc) (C := Try.checked) false ⟨#[], #[.agg (mcells zm), .agg (bs (zs 256))], []⟩ 8 (by kernel_rfl) (by kernel_rfl) (by kernel_rfl) (by kernel_rfl)) ?_
  intro W base args ds gs before hval0 hW hcnd hsz0 _
  have hval : ∀ (j : Nat) t v, Try.f3.params[j]? = some t → args[j]? = some v → Value.okWide Try.prog W .any base t v := hval0
  have hW' := hW
  obtain ⟨p, q, hA0, hV, rfl, hfz, hnd⟩ := hW
  have hA : DataW.TrodAll enc Try.prog W 0 (fun _ => true) true Try.f3.params.toList args.toList ds p := hA0
  have hsz : (DataW.weightsEach Try.prog (Try.f3.params.toList ++ []) (ds ++ gs)).all (· ≤ reachBytes) = true := hsz0
  rw [Try.params3] at hA hval hsz
  obtain ⟨v0, vs0, d0, ds0, p0, q0, hargs, rfl, rfl, h0, r0⟩ := trodAll_cons hA
  obtain ⟨v1, vs1, d1, ds1, p1, q1, rfl, rfl, rfl, h1, r1⟩ := trodAll_cons r0
  obtain ⟨rfl, rfl, rfl⟩ := trodAll_nil r1
  obtain rfl : args = #[v0, v1] := by cases args; simp_all
  obtain ⟨rfl, rfl⟩ := trodVars_none hV
  simp only [List.append_nil] at hsz
  have hlt : ∀ x ∈ (p0 ++ (p1 ++ [])), x.block < W.heap.size := fun x hx => hW'.lt x (by simpa using hx)
  have hw0 : (d0.weights Try.prog 27).all (· ≤ reachBytes) = true := List.all_eq_true.2 fun m hm => List.all_eq_true.1 hsz m (by simp [DataW.weightsEach, hm])
  have hw1 : (d1.weights Try.prog 29).all (· ≤ reachBytes) = true := List.all_eq_true.2 fun m hm => List.all_eq_true.1 hsz m (by simp [DataW.weightsEach, hm])
  have k0 := h0
  have k1 := h1
  obtain ⟨a0, rfl, w0⟩ := open_masv (hval 0 27 v0 rfl rfl) h0
  obtain ⟨a1, rfl, l1, w1⟩ := open_blockv (hval 1 29 v1 rfl rfl) h1
  clear hA0 hval0
  simp only [List.append_nil] at hW'
  refine (walk W a0 a1 w0 l1 w1).mono fun e W' ⟨he, hg⟩ => ?_
  subst he
  exact ⟨_, rfl, ⟨_, _, _, [], (p0 ++ (p1 ++ [])), [], hW', (trodAll_cons_mk (shut_bool Try.underlying4 _) trodAll_mk0), (trodAll_cons_mk (Below.trod laidOut (by kernel_rfl) (of_decide_eq_true (by kernel_rfl)) k0 hg (fun x hx => hlt x (by simp [hx]))) (trodAll_cons_mk (Below.trod laidOut (by kernel_rfl) (of_decide_eq_true (by kernel_rfl)) k1 hg (fun x hx => hlt x (by simp [hx]))) trodAll_mk0)), rfl,
    hg.frame _, fun h => by cases h⟩⟩

theorem over : Rows.masterPacksRow.holds Try.pinned (OpenSpec.ofChange Rows.masterPacksSpec) :=
  OpenClaim.holds_of_wide 3 Try.f3 rfl rfl rfl rfl rfl rfl rfl ⟨rfl, rfl, rfl, rfl, rfl⟩ rfl rfl rfl rfl rfl (by kernel_rfl) Try.func3 (by kernel_rfl)
    (of_decide_eq_true (by kernel_rfl)) (by unfold Func.isWrapper; first | (rw [if_pos (by decide +kernel)]; kernel_rfl) | (rw [if_neg (by decide +kernel)]; exact ⟨rfl, rfl⟩))
    (fun os started H enc _ => lifted os started H enc)

/-- The statement. -/
theorem proved : Rows.MasterPacksSaid :=
  over
#print axioms proved
end Go.Proofs.Ytcbjjofckhohjaa.masterPacks
