/-
  Proved here: of any two blocks the newer one that is a master's is told, and where it stands; or why none (MasterLoads).
-/
import Derived.Test.YtcbjjofckhohjaaMop
import Derived.Test.YtcbjjofckhohjaaMru
import Derived.Test.YtcbjjofckhohjaaMcr
namespace Go.Proofs.Ytcbjjofckhohjaa.masterLoads
open Go.ChangeShapes Go.WideShapes Go.ChangeAt Go.RowKit
open Go.Deep
set_option linter.unusedVariables false
set_option linter.unusedSimpArgs false

theorem own : ownKnob Try.prog.godebug = none := by kernel_rfl

set_option maxRecDepth 20000

set_option maxHeartbeats 8000000 in
theorem walk (w : World) (a b : List Int) (z : Int) (ha : a.length = 256) (ya : Bytes a) (hb : b.length = 256) (yb : Bytes b) (hz0 : (Lit.int .u8 z).wf = true) :
    Calls Try.prog 5 #[.agg (bs a), .agg (bs b), .int .u8 z] w fun e w' => e = .returned (.bool true) ∧ Below w.heap.size w w' := by
  have hzb := bounds_u8 hz0
  have HA : Hid _ := awake_any
  have HUA : Hid _ := fun w => runpack_any a w ha ya
  have HUB : Hid _ := fun w => runpack_any b w hb yb
  have hab : (bs a).size = 256 := by rw [bs_size, ha]
  have hbb : (bs b).size = 256 := by rw [bs_size, hb]
  have hwz : IntKind.i64.wrap z = z := by rw [IntKind.wrap_i64]; omega
  have e1 := writ_well (new_well 3) 0 (by omega) a
  obtain ⟨D0, HD0⟩ : ∃ x, ((Dsk.new 3).tick ((Dsk.new 3).ops + 1)).wrote 0 a 4 = x := ⟨_, rfl⟩
  rw [HD0] at e1
  have w0 : Well D0 3 1 := by rw [← HD0]; exact ⟨rfl, rfl, rfl, fun _ => rfl, by show (0 : Int) ≤ 0 + 1; decide, by show (0 : Int) + 1 ≤ 1; decide⟩
  have e2 := writ_well w0 1 (by omega) b
  obtain ⟨D1, HD1⟩ : ∃ x, (D0.tick (D0.ops + 1)).wrote 1 b 4 = x := ⟨_, rfl⟩
  rw [HD1] at e2
  have hdn : D1.down = false := by rw [← HD1]; exact w0.on
  have hnn : D1.n = 3 := by rw [← HD1]; exact w0.size
  have s0 : D1.seen 0 = a := by rw [← HD1, wrote_other _ _ _ _ (by decide), tick_seen, ← HD0, wrote_seen _ _ _ ha]
  have s1 : D1.seen 1 = b := by rw [← HD1, wrote_seen _ _ _ hb]
  have hlr := load_plan D1 z hdn (by omega)
  rw [s0, s1] at hlr
  obtain ⟨D2, HD2⟩ : ∃ x, D1.plan [z] 0 = x := ⟨_, rfl⟩
  rw [HD2] at hlr
  have HO2 : Hid (D2.ops < 9223372036854775804) := by show _ < _; rw [← HD2]; show (0 : Int) < 9223372036854775804; decide
  have HW0 : Hid (∀ wr G L, Dn w wr G (Dsk.new 3) L 0 → Calls Try.prog 17 #[.pointer (some ⟨G, 0, none⟩), .int .i64 0, .agg (bs a)] wr fun e w' => e = .returned (.int .i64 0) ∧ Goes w wr G D0 L 4 w') := fun wr G L h => by
    have := h.write (by decide) 0 a ha ya (by decide)
    rw [e1] at this; exact this
  have HW1 : Hid (∀ wr G L, Dn w wr G D0 L 4 → Calls Try.prog 17 #[.pointer (some ⟨G, 0, none⟩), .int .i64 1, .agg (bs b)] wr fun e w' => e = .returned (.int .i64 0) ∧ Goes w wr G D1 L 8 w') := fun wr G L h => by
    have := h.write (by have := w0.hi; omega) 1 b hb yb (by decide)
    rw [e2] at this; exact this
  have HPL : Hid (∀ wr G L K, Dn w wr G D1 L 8 → Row wr K #[.int .i64 z] 3 → K ≠ G → Calls Try.prog 18 #[.pointer (some ⟨G, 0, none⟩), .slice (some ⟨K, 0, none⟩) 1 1, .int .i64 0] wr fun e w' => e = .returned (.tuple #[]) ∧ Goes w wr G D2 L 8 w') := fun wr G L K h hr hk => by
    have := h.plan (.slice (some ⟨K, 0, none⟩) 1 1) [z] (Or.inr ⟨⟨K, 0, none⟩, 1, rfl, fun j u hj => by
      match j, hj with
      | 0, hj =>
        have e : (⟨K, 0, none⟩ : Addr).add 0 = ⟨K, 0, none⟩ := by unfold Addr.add; split <;> simp_all
        rw [e]
        have hu : u = .int .i64 z := by simpa using hj.symm
        rw [hu]
        exact row_at hr 0 _ rfl
      | j + 1, hj => simp at hj⟩) (fun a n c e => by cases e; exact hk) (fun y hy => by
        obtain rfl : y = z := by simpa using hy
        exact wf_of (by omega) (by omega)) (by simp) 0 (wf_of (by decide) (by decide))
    rw [HD2] at this; exact this
  clear e1 e2 w0 hdn hnn s0 s1 HD0 HD1 HD2
  have hz := zero27
  have r0 : Row ((w.alloc (.cells (bs a) 29)).alloc (.cells (bs b) 29)) w.heap.size (bs a) 29 := (Row.new _ _ _).alloc _
  have r1 : Row ((w.alloc (.cells (bs a) 29)).alloc (.cells (bs b) 29)) (w.heap.size + 1) (bs b) 29 := by have := Row.new (w.alloc (.cells (bs a) 29)) (bs b) 29; simpa using this
  have wb : Below w.heap.size w ((w.alloc (.cells (bs a) 29)).alloc (.cells (bs b) 29)) := ((Below.refl _ _).alloc (Nat.le_refl _) _).alloc (by simp) _
  go_enter Try.func5, Try.ntmps5
  go_upto_region 1 with fail
  generalize (w.alloc (.cells (bs a) 29)).alloc (.cells (bs b) 29) = w1 at r0 r1 wb ⊢
  have l1 := r1.lt
  go_upto_region 2 with (go_at_call 16; refine (new_some 3 (by decide) (by decide) _).mono ?_; rintro ex wa ⟨rfl, hd, hbn⟩)
  generalize hG : w1.heap.size + 2 = G at hd ⊢
  have hd1 := Dn.new wb hG hd hbn
  have n0 : ¬ foot G (Loc.new w1.heap.size) w.heap.size := Dn.new_out hG (by omega)
  have n1 : ¬ foot G (Loc.new w1.heap.size) (w.heap.size + 1) := Dn.new_out hG l1
  have r0 := r0.below hbn r0.lt
  have r1 := r1.below hbn r1.lt
  clear hd hbn wb
  generalize Loc.new w1.heap.size = L1 at hd1 n0 n1
  go_upto_region 4 with (first
    | (refine load_row_g rfl 29 (.tmp 3) rfl w.heap.size rfl 29 (bs a) r0 256 5 Try.underlying29 size29 hab ?_)
    | (go_at_call 17; refine (HW0.out _ _ _ hd1).mono ?_; clear HW0; rintro ex w2 ⟨rfl, L2, hd2, hk2⟩
       have q0 := hk2 _ _ _ r0 n0; have q1 := hk2 _ _ _ r1 n1; clear r0 r1 n0 n1 hk2 hd1; have r0 := q0.1; have r1 := q1.1; have n0 := q0.2; have n1 := q1.2; clear q0 q1)
    | (refine load_row_g rfl 29 (.tmp 4) rfl (w.heap.size + 1) rfl 29 (bs b) r1 256 5 Try.underlying29 size29 hbb ?_)
    | (go_at_call 17; refine (HW1.out _ _ _ hd2).mono ?_; clear HW1; rintro ex w3 ⟨rfl, L3, hd3, hk3⟩
       have q0 := hk3 _ _ _ r0 n0; have q1 := hk3 _ _ _ r1 n1; clear r0 r1 n0 n1 hk3 hd2; have r0 := q0.1; have r1 := q1.1; have n0 := q0.2; have n1 := q1.2; clear q0 q1))
  have qk : Row (w3.alloc (.cells #[.int .i64 z] 3)) w3.heap.size #[.int .i64 z] 3 := Row.new _ _ _
  have hd3' := hd3.down ((Below.refl _ _).alloc (Nat.le_refl _) (.cells #[.int .i64 z] 3))
  have r0 := r0.alloc (.cells #[.int .i64 z] 3)
  have r1 := r1.alloc (.cells #[.int .i64 z] 3)
  have hKG : w3.heap.size ≠ G := by have := hd3.at_.glt; omega
  clear hd3
  go_upto_region 5 with (go_at_call 18; refine (HPL.out _ _ _ _ hd3' qk hKG).mono ?_; clear HPL; rintro ex w4 ⟨rfl, L4, hd4, hk4⟩)
  have x0 := hk4 _ _ _ r0 n0
  have x1 := hk4 _ _ _ r1 n1
  clear r0 r1 n0 n1 hk4 hd3' qk
  have r0 := x0.1
  have r1 := x1.1
  have n0 := x0.2
  have n1 := x1.2
  clear x0 x1
  by_cases hf12 : z = 1 ∨ z = 2
  · rw [if_pos hf12] at hlr
    have HLD : Hid (∀ wr L, Dn w wr G D2 L 8 → Calls Try.prog 19 #[.pointer (some ⟨G, 0, none⟩)] wr fun e w' => e = .returned (.tuple #[.agg #[.int .u64 0, .int .u32 0, .int .u32 0, .int .u64 0, .int .u32 0, .int .i64 0, .int .i64 0, .int .i64 0, .int .u32 0], .int .i64 0, .int .i64 3]) ∧ Goes w wr G (loadD D2) L 8 w') := fun wr L h => by
      have := h.load HO2.out
      rw [hlr] at this; exact this
    clear hlr
    have heq : ∀ w, (Op.equalIn 10000 27 (.agg #[.int .u64 0, .int .u32 0, .int .u32 0, .int .u64 0, .int .u32 0, .int .i64 0, .int .i64 0, .int .i64 0, .int .u32 0]) (.agg #[.int .u64 0, .int .u32 0, .int .u32 0, .int .u64 0, .int .u32 0, .int .i64 0, .int .i64 0, .int .i64 0, .int .u32 0])).run Try.prog w = .ok true w := fun w => by
      have := equal27 zm zm w
      rw [eqM_self] at this; exact this
    go_upto_region 6 with (first
      | (go_at_call 19; refine (HLD.out _ _ hd4).mono ?_; clear HLD; rintro ex w5 ⟨rfl, L5, hd5, hk5⟩
         have ql : Row (w5.alloc (.cells #[.int .u64 0, .int .u32 0, .int .u32 0, .int .u64 0, .int .u32 0, .int .i64 0, .int .i64 0, .int .i64 0, .int .u32 0] 27)) w5.heap.size #[.int .u64 0, .int .u32 0, .int .u32 0, .int .u64 0, .int .u32 0, .int .i64 0, .int .i64 0, .int .i64 0, .int .u32 0] 27 := Row.new _ _ _)
      | (refine store_cells rfl 27 (.tmp 8) (.tmp 38) rfl w5.heap.size #[.int .u64 0, .int .u32 0, .int .u32 0, .int .u64 0, .int .u32 0, .int .i64 0, .int .i64 0, .int .i64 0, .int .u32 0] rfl rfl 27 _ ql 9 size27 rfl rfl (by simp [Value.oneCell']) ?_))
    have r0 := (hk5 _ _ _ r0 n0).1
    have r1 := (hk5 _ _ _ r1 n1).1
    have l50 := r0.lt
    have l51 := r1.lt
    have wb := hd5.be
    have r0 := (r0.alloc (.cells #[.int .u64 0, .int .u32 0, .int .u32 0, .int .u64 0, .int .u32 0, .int .i64 0, .int .i64 0, .int .i64 0, .int .u32 0] 27)).other (g := w5.heap.size) (by omega) #[.int .u64 0, .int .u32 0, .int .u32 0, .int .u64 0, .int .u32 0, .int .i64 0, .int .i64 0, .int .i64 0, .int .u32 0]
    have r1 := (r1.alloc (.cells #[.int .u64 0, .int .u32 0, .int .u32 0, .int .u64 0, .int .u32 0, .int .i64 0, .int .i64 0, .int .i64 0, .int .u32 0] 27)).other (g := w5.heap.size) (by omega) #[.int .u64 0, .int .u32 0, .int .u32 0, .int .u64 0, .int .u32 0, .int .i64 0, .int .i64 0, .int .i64 0, .int .u32 0]
    have ql := ql.set #[.int .u64 0, .int .u32 0, .int .u32 0, .int .u64 0, .int .u32 0, .int .i64 0, .int .i64 0, .int .i64 0, .int .u32 0]
    have wb := below_setRow (wb.alloc wb.size (.cells #[.int .u64 0, .int .u32 0, .int .u32 0, .int .u64 0, .int .u32 0, .int .i64 0, .int .i64 0, .int .i64 0, .int .u32 0] 27)) wb.size #[.int .u64 0, .int .u32 0, .int .u32 0, .int .u64 0, .int .u32 0, .int .i64 0, .int .i64 0, .int .i64 0, .int .u32 0]
    clear hk5 hd5 hd4 n0 n1
    show Code.wp _ _ _ _ ((w5.alloc (.cells #[.int .u64 0, .int .u32 0, .int .u32 0, .int .u64 0, .int .u32 0, .int .i64 0, .int .i64 0, .int .i64 0, .int .u32 0] 27)).setRow w5.heap.size #[.int .u64 0, .int .u32 0, .int .u32 0, .int .u64 0, .int .u32 0, .int .i64 0, .int .i64 0, .int .i64 0, .int .u32 0])
    generalize (w5.alloc (.cells #[.int .u64 0, .int .u32 0, .int .u32 0, .int .u64 0, .int .u32 0, .int .i64 0, .int .i64 0, .int .i64 0, .int .u32 0] 27)).setRow w5.heap.size #[.int .u64 0, .int .u32 0, .int .u32 0, .int .u64 0, .int .u32 0, .int .i64 0, .int .i64 0, .int .i64 0, .int .u32 0] = w5x at r0 r1 ql wb ⊢
    generalize w5.heap.size = gl at ql l50 l51 ⊢
    rcases hf12 with rfl | rfl
    · go_wp2_with (first
        | (refine load_cells_g rfl 27 (.tmp 8) rfl gl rfl 27 #[.int .u64 0, .int .u32 0, .int .u32 0, .int .u64 0, .int .u32 0, .int .i64 0, .int .i64 0, .int .i64 0, .int .u32 0] ql 9 Try.underlying27 rfl size27 rfl ?_)
        | (refine build_none_g rfl 27 rfl _ built27 ?_)
        | (go_at_call 15; refine (HA.out _).mono ?_; clear HA; rintro ex wf ⟨rfl, hf⟩; have wb := wb.trans (hf.mono wb.size)))
      go_ret
      exact ⟨rfl, wb⟩
    · go_wp2_with (first
        | (refine load_cells_g rfl 27 (.tmp 8) rfl gl rfl 27 #[.int .u64 0, .int .u32 0, .int .u32 0, .int .u64 0, .int .u32 0, .int .i64 0, .int .i64 0, .int .i64 0, .int .u32 0] ql 9 Try.underlying27 rfl size27 rfl ?_)
        | (refine build_none_g rfl 27 rfl _ built27 ?_)
        | (go_at_call 15; refine (HA.out _).mono ?_; clear HA; rintro ex wf ⟨rfl, hf⟩; have wb := wb.trans (hf.mono wb.size)))
      go_ret
      exact ⟨rfl, wb⟩
  · rw [if_neg hf12] at hlr
    have hz1 : (z == 1) = false := by simp; omega
    have hz2 : (z == 2) = false := by simp; omega
    have LF := @ldB_fst a b
    have LS := @ldB_snd a b
    have LN := @ldB_none a b
    obtain ⟨x, HX⟩ : ∃ x, gotM a = x := ⟨_, rfl⟩
    obtain ⟨y, HY⟩ : ∃ x, gotM b = x := ⟨_, rfl⟩
    obtain ⟨p, HP⟩ : ∃ x, isM a = x := ⟨_, rfl⟩
    obtain ⟨q, HQ⟩ : ∃ x, isM b = x := ⟨_, rfl⟩
    rw [HX, HP] at HUA
    rw [HY, HQ] at HUB
    rw [HX, HY, HP, HQ] at LF LS
    rw [HP, HQ] at LN
    have hex : Hid (∀ w, (Op.equalIn 10000 27 (.agg #[.int .u64 x.seq, .int .u32 x.ep, .int .u32 x.tail, .int .u64 x.lsn, .int .u32 x.last, .int .i64 x.pg, .int .i64 x.un, .int .i64 x.lg, .int .u32 x.mx]) (.agg #[.int .u64 x.seq, .int .u32 x.ep, .int .u32 x.tail, .int .u64 x.lsn, .int .u32 x.last, .int .i64 x.pg, .int .i64 x.un, .int .i64 x.lg, .int .u32 x.mx])).run Try.prog w = .ok true w) := fun w => by
      have := equal27 x x w
      rw [eqM_self] at this; exact this
    have hey : Hid (∀ w, (Op.equalIn 10000 27 (.agg #[.int .u64 y.seq, .int .u32 y.ep, .int .u32 y.tail, .int .u64 y.lsn, .int .u32 y.last, .int .i64 y.pg, .int .i64 y.un, .int .i64 y.lg, .int .u32 y.mx]) (.agg #[.int .u64 y.seq, .int .u32 y.ep, .int .u32 y.tail, .int .u64 y.lsn, .int .u32 y.last, .int .i64 y.pg, .int .i64 y.un, .int .i64 y.lg, .int .u32 y.mx])).run Try.prog w = .ok true w) := fun w => by
      have := equal27 y y w
      rw [eqM_self] at this; exact this
    have hez : Hid (∀ w, (Op.equalIn 10000 27 (.agg #[.int .u64 0, .int .u32 0, .int .u32 0, .int .u64 0, .int .u32 0, .int .i64 0, .int .i64 0, .int .i64 0, .int .u32 0]) (.agg #[.int .u64 0, .int .u32 0, .int .u32 0, .int .u64 0, .int .u32 0, .int .i64 0, .int .i64 0, .int .i64 0, .int .u32 0])).run Try.prog w = .ok true w) := fun w => by
      have := equal27 zm zm w
      rw [eqM_self] at this; exact this
    clear HX HY HP HQ hf12
    cases p
    · cases q
      · rw [LN rfl rfl] at hlr
        clear LF LS LN
        have heq := hez.out
        have HLD : Hid (∀ wr L, Dn w wr G D2 L 8 → Calls Try.prog 19 #[.pointer (some ⟨G, 0, none⟩)] wr fun e w' => e = .returned (.tuple #[.agg #[.int .u64 0, .int .u32 0, .int .u32 0, .int .u64 0, .int .u32 0, .int .i64 0, .int .i64 0, .int .i64 0, .int .u32 0], .int .i64 0, .int .i64 2]) ∧ Goes w wr G (loadD D2) L 8 w') := fun wr L h => by
          have := h.load HO2.out
          rw [hlr] at this; exact this
        clear hlr
        go_upto_region 6 with (first
          | (go_at_call 19; refine (HLD.out _ _ hd4).mono ?_; clear HLD; rintro ex w5 ⟨rfl, L5, hd5, hk5⟩
             have ql : Row (w5.alloc (.cells #[.int .u64 0, .int .u32 0, .int .u32 0, .int .u64 0, .int .u32 0, .int .i64 0, .int .i64 0, .int .i64 0, .int .u32 0] 27)) w5.heap.size #[.int .u64 0, .int .u32 0, .int .u32 0, .int .u64 0, .int .u32 0, .int .i64 0, .int .i64 0, .int .i64 0, .int .u32 0] 27 := Row.new _ _ _)
          | (refine store_cells rfl 27 (.tmp 8) (.tmp 38) rfl w5.heap.size #[.int .u64 0, .int .u32 0, .int .u32 0, .int .u64 0, .int .u32 0, .int .i64 0, .int .i64 0, .int .i64 0, .int .u32 0] rfl rfl 27 _ ql 9 size27 rfl rfl (by simp [Value.oneCell']) ?_))
        have r0 := (hk5 _ _ _ r0 n0).1
        have r1 := (hk5 _ _ _ r1 n1).1
        have l50 := r0.lt
        have l51 := r1.lt
        have wb := hd5.be
        have r0 := (r0.alloc (.cells #[.int .u64 0, .int .u32 0, .int .u32 0, .int .u64 0, .int .u32 0, .int .i64 0, .int .i64 0, .int .i64 0, .int .u32 0] 27)).other (g := w5.heap.size) (by omega) #[.int .u64 0, .int .u32 0, .int .u32 0, .int .u64 0, .int .u32 0, .int .i64 0, .int .i64 0, .int .i64 0, .int .u32 0]
        have r1 := (r1.alloc (.cells #[.int .u64 0, .int .u32 0, .int .u32 0, .int .u64 0, .int .u32 0, .int .i64 0, .int .i64 0, .int .i64 0, .int .u32 0] 27)).other (g := w5.heap.size) (by omega) #[.int .u64 0, .int .u32 0, .int .u32 0, .int .u64 0, .int .u32 0, .int .i64 0, .int .i64 0, .int .i64 0, .int .u32 0]
        have ql := ql.set #[.int .u64 0, .int .u32 0, .int .u32 0, .int .u64 0, .int .u32 0, .int .i64 0, .int .i64 0, .int .i64 0, .int .u32 0]
        have wb := below_setRow (wb.alloc wb.size (.cells #[.int .u64 0, .int .u32 0, .int .u32 0, .int .u64 0, .int .u32 0, .int .i64 0, .int .i64 0, .int .i64 0, .int .u32 0] 27)) wb.size #[.int .u64 0, .int .u32 0, .int .u32 0, .int .u64 0, .int .u32 0, .int .i64 0, .int .i64 0, .int .i64 0, .int .u32 0]
        clear hk5 hd5 hd4 n0 n1
        show Code.wp _ _ _ _ ((w5.alloc (.cells #[.int .u64 0, .int .u32 0, .int .u32 0, .int .u64 0, .int .u32 0, .int .i64 0, .int .i64 0, .int .i64 0, .int .u32 0] 27)).setRow w5.heap.size #[.int .u64 0, .int .u32 0, .int .u32 0, .int .u64 0, .int .u32 0, .int .i64 0, .int .i64 0, .int .i64 0, .int .u32 0])
        generalize (w5.alloc (.cells #[.int .u64 0, .int .u32 0, .int .u32 0, .int .u64 0, .int .u32 0, .int .i64 0, .int .i64 0, .int .i64 0, .int .u32 0] 27)).setRow w5.heap.size #[.int .u64 0, .int .u32 0, .int .u32 0, .int .u64 0, .int .u32 0, .int .i64 0, .int .i64 0, .int .i64 0, .int .u32 0] = w5x at r0 r1 ql wb ⊢
        generalize w5.heap.size = gl at ql l50 l51 ⊢
        go_upto_region 9 with (first
          | (refine load_row rfl 29 (.tmp 3) rfl w.heap.size rfl 29 (bs a) r0 256 5 Try.underlying29 size29 hab ?_)
          | (go_at_call 11; refine (HUA.out _).mono ?_; clear HUA; rintro ex w6 ⟨rfl, h6⟩
             have qx : Row (w6.alloc (.cells #[.int .u64 0, .int .u32 0, .int .u32 0, .int .u64 0, .int .u32 0, .int .i64 0, .int .i64 0, .int .i64 0, .int .u32 0] 27)) w6.heap.size #[.int .u64 0, .int .u32 0, .int .u32 0, .int .u64 0, .int .u32 0, .int .i64 0, .int .i64 0, .int .i64 0, .int .u32 0] 27 := Row.new _ _ _)
          | (refine store_cells rfl 27 (.tmp 11) (.tmp 64) rfl w6.heap.size #[.int .u64 x.seq, .int .u32 x.ep, .int .u32 x.tail, .int .u64 x.lsn, .int .u32 x.last, .int .i64 x.pg, .int .i64 x.un, .int .i64 x.lg, .int .u32 x.mx] rfl rfl 27 _ qx 9 size27 rfl rfl (by simp [Value.oneCell']) ?_))
        have r0 := r0.below h6 r0.lt
        have r1 := r1.below h6 r1.lt
        have ql := ql.below h6 ql.lt
        have lgxr0 := r0.lt
        have lgxr1 := r1.lt
        have lgxql := ql.lt
        have wb := wb.trans (h6.mono wb.size)
        have r0 := (r0.alloc (.cells #[.int .u64 0, .int .u32 0, .int .u32 0, .int .u64 0, .int .u32 0, .int .i64 0, .int .i64 0, .int .i64 0, .int .u32 0] 27)).other (g := w6.heap.size) (by omega) #[.int .u64 x.seq, .int .u32 x.ep, .int .u32 x.tail, .int .u64 x.lsn, .int .u32 x.last, .int .i64 x.pg, .int .i64 x.un, .int .i64 x.lg, .int .u32 x.mx]
        have r1 := (r1.alloc (.cells #[.int .u64 0, .int .u32 0, .int .u32 0, .int .u64 0, .int .u32 0, .int .i64 0, .int .i64 0, .int .i64 0, .int .u32 0] 27)).other (g := w6.heap.size) (by omega) #[.int .u64 x.seq, .int .u32 x.ep, .int .u32 x.tail, .int .u64 x.lsn, .int .u32 x.last, .int .i64 x.pg, .int .i64 x.un, .int .i64 x.lg, .int .u32 x.mx]
        have ql := (ql.alloc (.cells #[.int .u64 0, .int .u32 0, .int .u32 0, .int .u64 0, .int .u32 0, .int .i64 0, .int .i64 0, .int .i64 0, .int .u32 0] 27)).other (g := w6.heap.size) (by omega) #[.int .u64 x.seq, .int .u32 x.ep, .int .u32 x.tail, .int .u64 x.lsn, .int .u32 x.last, .int .i64 x.pg, .int .i64 x.un, .int .i64 x.lg, .int .u32 x.mx]
        have qx := qx.set #[.int .u64 x.seq, .int .u32 x.ep, .int .u32 x.tail, .int .u64 x.lsn, .int .u32 x.last, .int .i64 x.pg, .int .i64 x.un, .int .i64 x.lg, .int .u32 x.mx]
        have wb := below_setRow (wb.alloc wb.size (.cells #[.int .u64 0, .int .u32 0, .int .u32 0, .int .u64 0, .int .u32 0, .int .i64 0, .int .i64 0, .int .i64 0, .int .u32 0] 27)) wb.size #[.int .u64 x.seq, .int .u32 x.ep, .int .u32 x.tail, .int .u64 x.lsn, .int .u32 x.last, .int .i64 x.pg, .int .i64 x.un, .int .i64 x.lg, .int .u32 x.mx]
        clear h6
        show Code.wp _ _ _ _ ((w6.alloc (.cells #[.int .u64 0, .int .u32 0, .int .u32 0, .int .u64 0, .int .u32 0, .int .i64 0, .int .i64 0, .int .i64 0, .int .u32 0] 27)).setRow w6.heap.size #[.int .u64 x.seq, .int .u32 x.ep, .int .u32 x.tail, .int .u64 x.lsn, .int .u32 x.last, .int .i64 x.pg, .int .i64 x.un, .int .i64 x.lg, .int .u32 x.mx])
        generalize (w6.alloc (.cells #[.int .u64 0, .int .u32 0, .int .u32 0, .int .u64 0, .int .u32 0, .int .i64 0, .int .i64 0, .int .i64 0, .int .u32 0] 27)).setRow w6.heap.size #[.int .u64 x.seq, .int .u32 x.ep, .int .u32 x.tail, .int .u64 x.lsn, .int .u32 x.last, .int .i64 x.pg, .int .i64 x.un, .int .i64 x.lg, .int .u32 x.mx] = w6x at r0 r1 ql qx wb ⊢
        generalize w6.heap.size = gx at qx lgxr0 lgxr1 lgxql ⊢
        go_upto_region 10 with (first
          | (refine load_row rfl 29 (.tmp 4) rfl (w.heap.size + 1) rfl 29 (bs b) r1 256 5 Try.underlying29 size29 hbb ?_)
          | (go_at_call 11; refine (HUB.out _).mono ?_; clear HUB; rintro ex w7 ⟨rfl, h7⟩
             have qy : Row (w7.alloc (.cells #[.int .u64 0, .int .u32 0, .int .u32 0, .int .u64 0, .int .u32 0, .int .i64 0, .int .i64 0, .int .i64 0, .int .u32 0] 27)) w7.heap.size #[.int .u64 0, .int .u32 0, .int .u32 0, .int .u64 0, .int .u32 0, .int .i64 0, .int .i64 0, .int .i64 0, .int .u32 0] 27 := Row.new _ _ _)
          | (refine store_cells rfl 27 (.tmp 13) (.tmp 69) rfl w7.heap.size #[.int .u64 y.seq, .int .u32 y.ep, .int .u32 y.tail, .int .u64 y.lsn, .int .u32 y.last, .int .i64 y.pg, .int .i64 y.un, .int .i64 y.lg, .int .u32 y.mx] rfl rfl 27 _ qy 9 size27 rfl rfl (by simp [Value.oneCell']) ?_))
        have r0 := r0.below h7 r0.lt
        have r1 := r1.below h7 r1.lt
        have ql := ql.below h7 ql.lt
        have qx := qx.below h7 qx.lt
        have lgyr0 := r0.lt
        have lgyr1 := r1.lt
        have lgyql := ql.lt
        have lgyqx := qx.lt
        have wb := wb.trans (h7.mono wb.size)
        have r0 := (r0.alloc (.cells #[.int .u64 0, .int .u32 0, .int .u32 0, .int .u64 0, .int .u32 0, .int .i64 0, .int .i64 0, .int .i64 0, .int .u32 0] 27)).other (g := w7.heap.size) (by omega) #[.int .u64 y.seq, .int .u32 y.ep, .int .u32 y.tail, .int .u64 y.lsn, .int .u32 y.last, .int .i64 y.pg, .int .i64 y.un, .int .i64 y.lg, .int .u32 y.mx]
        have r1 := (r1.alloc (.cells #[.int .u64 0, .int .u32 0, .int .u32 0, .int .u64 0, .int .u32 0, .int .i64 0, .int .i64 0, .int .i64 0, .int .u32 0] 27)).other (g := w7.heap.size) (by omega) #[.int .u64 y.seq, .int .u32 y.ep, .int .u32 y.tail, .int .u64 y.lsn, .int .u32 y.last, .int .i64 y.pg, .int .i64 y.un, .int .i64 y.lg, .int .u32 y.mx]
        have ql := (ql.alloc (.cells #[.int .u64 0, .int .u32 0, .int .u32 0, .int .u64 0, .int .u32 0, .int .i64 0, .int .i64 0, .int .i64 0, .int .u32 0] 27)).other (g := w7.heap.size) (by omega) #[.int .u64 y.seq, .int .u32 y.ep, .int .u32 y.tail, .int .u64 y.lsn, .int .u32 y.last, .int .i64 y.pg, .int .i64 y.un, .int .i64 y.lg, .int .u32 y.mx]
        have qx := (qx.alloc (.cells #[.int .u64 0, .int .u32 0, .int .u32 0, .int .u64 0, .int .u32 0, .int .i64 0, .int .i64 0, .int .i64 0, .int .u32 0] 27)).other (g := w7.heap.size) (by omega) #[.int .u64 y.seq, .int .u32 y.ep, .int .u32 y.tail, .int .u64 y.lsn, .int .u32 y.last, .int .i64 y.pg, .int .i64 y.un, .int .i64 y.lg, .int .u32 y.mx]
        have qy := qy.set #[.int .u64 y.seq, .int .u32 y.ep, .int .u32 y.tail, .int .u64 y.lsn, .int .u32 y.last, .int .i64 y.pg, .int .i64 y.un, .int .i64 y.lg, .int .u32 y.mx]
        have wb := below_setRow (wb.alloc wb.size (.cells #[.int .u64 0, .int .u32 0, .int .u32 0, .int .u64 0, .int .u32 0, .int .i64 0, .int .i64 0, .int .i64 0, .int .u32 0] 27)) wb.size #[.int .u64 y.seq, .int .u32 y.ep, .int .u32 y.tail, .int .u64 y.lsn, .int .u32 y.last, .int .i64 y.pg, .int .i64 y.un, .int .i64 y.lg, .int .u32 y.mx]
        clear h7
        show Code.wp _ _ _ _ ((w7.alloc (.cells #[.int .u64 0, .int .u32 0, .int .u32 0, .int .u64 0, .int .u32 0, .int .i64 0, .int .i64 0, .int .i64 0, .int .u32 0] 27)).setRow w7.heap.size #[.int .u64 y.seq, .int .u32 y.ep, .int .u32 y.tail, .int .u64 y.lsn, .int .u32 y.last, .int .i64 y.pg, .int .i64 y.un, .int .i64 y.lg, .int .u32 y.mx])
        generalize (w7.alloc (.cells #[.int .u64 0, .int .u32 0, .int .u32 0, .int .u64 0, .int .u32 0, .int .i64 0, .int .i64 0, .int .i64 0, .int .u32 0] 27)).setRow w7.heap.size #[.int .u64 y.seq, .int .u32 y.ep, .int .u32 y.tail, .int .u64 y.lsn, .int .u32 y.last, .int .i64 y.pg, .int .i64 y.un, .int .i64 y.lg, .int .u32 y.mx] = w7x at r0 r1 ql qx qy wb ⊢
        generalize w7.heap.size = gy at qy lgyr0 lgyr1 lgyql lgyqx ⊢
        have cx := row_at qx 0 (.int .u64 x.seq) rfl
        have cy := row_at qy 0 (.int .u64 y.seq) rfl
        go_wp2_with (first
          | (refine load_cells_g rfl 27 (.tmp 8) rfl gl rfl 27 #[.int .u64 0, .int .u32 0, .int .u32 0, .int .u64 0, .int .u32 0, .int .i64 0, .int .i64 0, .int .i64 0, .int .u32 0] ql 9 Try.underlying27 rfl size27 rfl ?_)
          | (refine build_none_g rfl 27 rfl _ built27 ?_)
          | (go_at_call 15; refine (HA.out _).mono ?_; clear HA; rintro ex wf ⟨rfl, hf⟩; have wb := wb.trans (hf.mono wb.size)))
        go_ret
        exact ⟨rfl, wb⟩
      · rw [LS rfl (Or.inl rfl)] at hlr
        clear LF LS LN
        have heq := hey.out
        have HLD : Hid (∀ wr L, Dn w wr G D2 L 8 → Calls Try.prog 19 #[.pointer (some ⟨G, 0, none⟩)] wr fun e w' => e = .returned (.tuple #[.agg #[.int .u64 y.seq, .int .u32 y.ep, .int .u32 y.tail, .int .u64 y.lsn, .int .u32 y.last, .int .i64 y.pg, .int .i64 y.un, .int .i64 y.lg, .int .u32 y.mx], .int .i64 1, .int .i64 0]) ∧ Goes w wr G (loadD D2) L 8 w') := fun wr L h => by
          have := h.load HO2.out
          rw [hlr] at this; exact this
        clear hlr
        go_upto_region 6 with (first
          | (go_at_call 19; refine (HLD.out _ _ hd4).mono ?_; clear HLD; rintro ex w5 ⟨rfl, L5, hd5, hk5⟩
             have ql : Row (w5.alloc (.cells #[.int .u64 0, .int .u32 0, .int .u32 0, .int .u64 0, .int .u32 0, .int .i64 0, .int .i64 0, .int .i64 0, .int .u32 0] 27)) w5.heap.size #[.int .u64 0, .int .u32 0, .int .u32 0, .int .u64 0, .int .u32 0, .int .i64 0, .int .i64 0, .int .i64 0, .int .u32 0] 27 := Row.new _ _ _)
          | (refine store_cells rfl 27 (.tmp 8) (.tmp 38) rfl w5.heap.size #[.int .u64 y.seq, .int .u32 y.ep, .int .u32 y.tail, .int .u64 y.lsn, .int .u32 y.last, .int .i64 y.pg, .int .i64 y.un, .int .i64 y.lg, .int .u32 y.mx] rfl rfl 27 _ ql 9 size27 rfl rfl (by simp [Value.oneCell']) ?_))
        have r0 := (hk5 _ _ _ r0 n0).1
        have r1 := (hk5 _ _ _ r1 n1).1
        have l50 := r0.lt
        have l51 := r1.lt
        have wb := hd5.be
        have r0 := (r0.alloc (.cells #[.int .u64 0, .int .u32 0, .int .u32 0, .int .u64 0, .int .u32 0, .int .i64 0, .int .i64 0, .int .i64 0, .int .u32 0] 27)).other (g := w5.heap.size) (by omega) #[.int .u64 y.seq, .int .u32 y.ep, .int .u32 y.tail, .int .u64 y.lsn, .int .u32 y.last, .int .i64 y.pg, .int .i64 y.un, .int .i64 y.lg, .int .u32 y.mx]
        have r1 := (r1.alloc (.cells #[.int .u64 0, .int .u32 0, .int .u32 0, .int .u64 0, .int .u32 0, .int .i64 0, .int .i64 0, .int .i64 0, .int .u32 0] 27)).other (g := w5.heap.size) (by omega) #[.int .u64 y.seq, .int .u32 y.ep, .int .u32 y.tail, .int .u64 y.lsn, .int .u32 y.last, .int .i64 y.pg, .int .i64 y.un, .int .i64 y.lg, .int .u32 y.mx]
        have ql := ql.set #[.int .u64 y.seq, .int .u32 y.ep, .int .u32 y.tail, .int .u64 y.lsn, .int .u32 y.last, .int .i64 y.pg, .int .i64 y.un, .int .i64 y.lg, .int .u32 y.mx]
        have wb := below_setRow (wb.alloc wb.size (.cells #[.int .u64 0, .int .u32 0, .int .u32 0, .int .u64 0, .int .u32 0, .int .i64 0, .int .i64 0, .int .i64 0, .int .u32 0] 27)) wb.size #[.int .u64 y.seq, .int .u32 y.ep, .int .u32 y.tail, .int .u64 y.lsn, .int .u32 y.last, .int .i64 y.pg, .int .i64 y.un, .int .i64 y.lg, .int .u32 y.mx]
        clear hk5 hd5 hd4 n0 n1
        show Code.wp _ _ _ _ ((w5.alloc (.cells #[.int .u64 0, .int .u32 0, .int .u32 0, .int .u64 0, .int .u32 0, .int .i64 0, .int .i64 0, .int .i64 0, .int .u32 0] 27)).setRow w5.heap.size #[.int .u64 y.seq, .int .u32 y.ep, .int .u32 y.tail, .int .u64 y.lsn, .int .u32 y.last, .int .i64 y.pg, .int .i64 y.un, .int .i64 y.lg, .int .u32 y.mx])
        generalize (w5.alloc (.cells #[.int .u64 0, .int .u32 0, .int .u32 0, .int .u64 0, .int .u32 0, .int .i64 0, .int .i64 0, .int .i64 0, .int .u32 0] 27)).setRow w5.heap.size #[.int .u64 y.seq, .int .u32 y.ep, .int .u32 y.tail, .int .u64 y.lsn, .int .u32 y.last, .int .i64 y.pg, .int .i64 y.un, .int .i64 y.lg, .int .u32 y.mx] = w5x at r0 r1 ql wb ⊢
        generalize w5.heap.size = gl at ql l50 l51 ⊢
        go_upto_region 9 with (first
          | (refine load_row rfl 29 (.tmp 3) rfl w.heap.size rfl 29 (bs a) r0 256 5 Try.underlying29 size29 hab ?_)
          | (go_at_call 11; refine (HUA.out _).mono ?_; clear HUA; rintro ex w6 ⟨rfl, h6⟩
             have qx : Row (w6.alloc (.cells #[.int .u64 0, .int .u32 0, .int .u32 0, .int .u64 0, .int .u32 0, .int .i64 0, .int .i64 0, .int .i64 0, .int .u32 0] 27)) w6.heap.size #[.int .u64 0, .int .u32 0, .int .u32 0, .int .u64 0, .int .u32 0, .int .i64 0, .int .i64 0, .int .i64 0, .int .u32 0] 27 := Row.new _ _ _)
          | (refine store_cells rfl 27 (.tmp 11) (.tmp 64) rfl w6.heap.size #[.int .u64 x.seq, .int .u32 x.ep, .int .u32 x.tail, .int .u64 x.lsn, .int .u32 x.last, .int .i64 x.pg, .int .i64 x.un, .int .i64 x.lg, .int .u32 x.mx] rfl rfl 27 _ qx 9 size27 rfl rfl (by simp [Value.oneCell']) ?_))
        have r0 := r0.below h6 r0.lt
        have r1 := r1.below h6 r1.lt
        have ql := ql.below h6 ql.lt
        have lgxr0 := r0.lt
        have lgxr1 := r1.lt
        have lgxql := ql.lt
        have wb := wb.trans (h6.mono wb.size)
        have r0 := (r0.alloc (.cells #[.int .u64 0, .int .u32 0, .int .u32 0, .int .u64 0, .int .u32 0, .int .i64 0, .int .i64 0, .int .i64 0, .int .u32 0] 27)).other (g := w6.heap.size) (by omega) #[.int .u64 x.seq, .int .u32 x.ep, .int .u32 x.tail, .int .u64 x.lsn, .int .u32 x.last, .int .i64 x.pg, .int .i64 x.un, .int .i64 x.lg, .int .u32 x.mx]
        have r1 := (r1.alloc (.cells #[.int .u64 0, .int .u32 0, .int .u32 0, .int .u64 0, .int .u32 0, .int .i64 0, .int .i64 0, .int .i64 0, .int .u32 0] 27)).other (g := w6.heap.size) (by omega) #[.int .u64 x.seq, .int .u32 x.ep, .int .u32 x.tail, .int .u64 x.lsn, .int .u32 x.last, .int .i64 x.pg, .int .i64 x.un, .int .i64 x.lg, .int .u32 x.mx]
        have ql := (ql.alloc (.cells #[.int .u64 0, .int .u32 0, .int .u32 0, .int .u64 0, .int .u32 0, .int .i64 0, .int .i64 0, .int .i64 0, .int .u32 0] 27)).other (g := w6.heap.size) (by omega) #[.int .u64 x.seq, .int .u32 x.ep, .int .u32 x.tail, .int .u64 x.lsn, .int .u32 x.last, .int .i64 x.pg, .int .i64 x.un, .int .i64 x.lg, .int .u32 x.mx]
        have qx := qx.set #[.int .u64 x.seq, .int .u32 x.ep, .int .u32 x.tail, .int .u64 x.lsn, .int .u32 x.last, .int .i64 x.pg, .int .i64 x.un, .int .i64 x.lg, .int .u32 x.mx]
        have wb := below_setRow (wb.alloc wb.size (.cells #[.int .u64 0, .int .u32 0, .int .u32 0, .int .u64 0, .int .u32 0, .int .i64 0, .int .i64 0, .int .i64 0, .int .u32 0] 27)) wb.size #[.int .u64 x.seq, .int .u32 x.ep, .int .u32 x.tail, .int .u64 x.lsn, .int .u32 x.last, .int .i64 x.pg, .int .i64 x.un, .int .i64 x.lg, .int .u32 x.mx]
        clear h6
        show Code.wp _ _ _ _ ((w6.alloc (.cells #[.int .u64 0, .int .u32 0, .int .u32 0, .int .u64 0, .int .u32 0, .int .i64 0, .int .i64 0, .int .i64 0, .int .u32 0] 27)).setRow w6.heap.size #[.int .u64 x.seq, .int .u32 x.ep, .int .u32 x.tail, .int .u64 x.lsn, .int .u32 x.last, .int .i64 x.pg, .int .i64 x.un, .int .i64 x.lg, .int .u32 x.mx])
        generalize (w6.alloc (.cells #[.int .u64 0, .int .u32 0, .int .u32 0, .int .u64 0, .int .u32 0, .int .i64 0, .int .i64 0, .int .i64 0, .int .u32 0] 27)).setRow w6.heap.size #[.int .u64 x.seq, .int .u32 x.ep, .int .u32 x.tail, .int .u64 x.lsn, .int .u32 x.last, .int .i64 x.pg, .int .i64 x.un, .int .i64 x.lg, .int .u32 x.mx] = w6x at r0 r1 ql qx wb ⊢
        generalize w6.heap.size = gx at qx lgxr0 lgxr1 lgxql ⊢
        go_upto_region 10 with (first
          | (refine load_row rfl 29 (.tmp 4) rfl (w.heap.size + 1) rfl 29 (bs b) r1 256 5 Try.underlying29 size29 hbb ?_)
          | (go_at_call 11; refine (HUB.out _).mono ?_; clear HUB; rintro ex w7 ⟨rfl, h7⟩
             have qy : Row (w7.alloc (.cells #[.int .u64 0, .int .u32 0, .int .u32 0, .int .u64 0, .int .u32 0, .int .i64 0, .int .i64 0, .int .i64 0, .int .u32 0] 27)) w7.heap.size #[.int .u64 0, .int .u32 0, .int .u32 0, .int .u64 0, .int .u32 0, .int .i64 0, .int .i64 0, .int .i64 0, .int .u32 0] 27 := Row.new _ _ _)
          | (refine store_cells rfl 27 (.tmp 13) (.tmp 69) rfl w7.heap.size #[.int .u64 y.seq, .int .u32 y.ep, .int .u32 y.tail, .int .u64 y.lsn, .int .u32 y.last, .int .i64 y.pg, .int .i64 y.un, .int .i64 y.lg, .int .u32 y.mx] rfl rfl 27 _ qy 9 size27 rfl rfl (by simp [Value.oneCell']) ?_))
        have r0 := r0.below h7 r0.lt
        have r1 := r1.below h7 r1.lt
        have ql := ql.below h7 ql.lt
        have qx := qx.below h7 qx.lt
        have lgyr0 := r0.lt
        have lgyr1 := r1.lt
        have lgyql := ql.lt
        have lgyqx := qx.lt
        have wb := wb.trans (h7.mono wb.size)
        have r0 := (r0.alloc (.cells #[.int .u64 0, .int .u32 0, .int .u32 0, .int .u64 0, .int .u32 0, .int .i64 0, .int .i64 0, .int .i64 0, .int .u32 0] 27)).other (g := w7.heap.size) (by omega) #[.int .u64 y.seq, .int .u32 y.ep, .int .u32 y.tail, .int .u64 y.lsn, .int .u32 y.last, .int .i64 y.pg, .int .i64 y.un, .int .i64 y.lg, .int .u32 y.mx]
        have r1 := (r1.alloc (.cells #[.int .u64 0, .int .u32 0, .int .u32 0, .int .u64 0, .int .u32 0, .int .i64 0, .int .i64 0, .int .i64 0, .int .u32 0] 27)).other (g := w7.heap.size) (by omega) #[.int .u64 y.seq, .int .u32 y.ep, .int .u32 y.tail, .int .u64 y.lsn, .int .u32 y.last, .int .i64 y.pg, .int .i64 y.un, .int .i64 y.lg, .int .u32 y.mx]
        have ql := (ql.alloc (.cells #[.int .u64 0, .int .u32 0, .int .u32 0, .int .u64 0, .int .u32 0, .int .i64 0, .int .i64 0, .int .i64 0, .int .u32 0] 27)).other (g := w7.heap.size) (by omega) #[.int .u64 y.seq, .int .u32 y.ep, .int .u32 y.tail, .int .u64 y.lsn, .int .u32 y.last, .int .i64 y.pg, .int .i64 y.un, .int .i64 y.lg, .int .u32 y.mx]
        have qx := (qx.alloc (.cells #[.int .u64 0, .int .u32 0, .int .u32 0, .int .u64 0, .int .u32 0, .int .i64 0, .int .i64 0, .int .i64 0, .int .u32 0] 27)).other (g := w7.heap.size) (by omega) #[.int .u64 y.seq, .int .u32 y.ep, .int .u32 y.tail, .int .u64 y.lsn, .int .u32 y.last, .int .i64 y.pg, .int .i64 y.un, .int .i64 y.lg, .int .u32 y.mx]
        have qy := qy.set #[.int .u64 y.seq, .int .u32 y.ep, .int .u32 y.tail, .int .u64 y.lsn, .int .u32 y.last, .int .i64 y.pg, .int .i64 y.un, .int .i64 y.lg, .int .u32 y.mx]
        have wb := below_setRow (wb.alloc wb.size (.cells #[.int .u64 0, .int .u32 0, .int .u32 0, .int .u64 0, .int .u32 0, .int .i64 0, .int .i64 0, .int .i64 0, .int .u32 0] 27)) wb.size #[.int .u64 y.seq, .int .u32 y.ep, .int .u32 y.tail, .int .u64 y.lsn, .int .u32 y.last, .int .i64 y.pg, .int .i64 y.un, .int .i64 y.lg, .int .u32 y.mx]
        clear h7
        show Code.wp _ _ _ _ ((w7.alloc (.cells #[.int .u64 0, .int .u32 0, .int .u32 0, .int .u64 0, .int .u32 0, .int .i64 0, .int .i64 0, .int .i64 0, .int .u32 0] 27)).setRow w7.heap.size #[.int .u64 y.seq, .int .u32 y.ep, .int .u32 y.tail, .int .u64 y.lsn, .int .u32 y.last, .int .i64 y.pg, .int .i64 y.un, .int .i64 y.lg, .int .u32 y.mx])
        generalize (w7.alloc (.cells #[.int .u64 0, .int .u32 0, .int .u32 0, .int .u64 0, .int .u32 0, .int .i64 0, .int .i64 0, .int .i64 0, .int .u32 0] 27)).setRow w7.heap.size #[.int .u64 y.seq, .int .u32 y.ep, .int .u32 y.tail, .int .u64 y.lsn, .int .u32 y.last, .int .i64 y.pg, .int .i64 y.un, .int .i64 y.lg, .int .u32 y.mx] = w7x at r0 r1 ql qx qy wb ⊢
        generalize w7.heap.size = gy at qy lgyr0 lgyr1 lgyql lgyqx ⊢
        have cx := row_at qx 0 (.int .u64 x.seq) rfl
        have cy := row_at qy 0 (.int .u64 y.seq) rfl
        go_wp2_with (first
          | (refine load_cells_g rfl 27 (.tmp 8) rfl gl rfl 27 #[.int .u64 y.seq, .int .u32 y.ep, .int .u32 y.tail, .int .u64 y.lsn, .int .u32 y.last, .int .i64 y.pg, .int .i64 y.un, .int .i64 y.lg, .int .u32 y.mx] ql 9 Try.underlying27 rfl size27 rfl ?_)
          | (refine load_cells_g rfl 27 (.tmp 13) rfl gy rfl 27 #[.int .u64 y.seq, .int .u32 y.ep, .int .u32 y.tail, .int .u64 y.lsn, .int .u32 y.last, .int .i64 y.pg, .int .i64 y.un, .int .i64 y.lg, .int .u32 y.mx] qy 9 Try.underlying27 rfl size27 rfl ?_)
          | (go_at_call 15; refine (HA.out _).mono ?_; clear HA; rintro ex wf ⟨rfl, hf⟩; have wb := wb.trans (hf.mono wb.size)))
        go_ret
        exact ⟨rfl, wb⟩
    · cases q
      · rw [LF rfl (Or.inl rfl)] at hlr
        clear LF LS LN
        have heq := hex.out
        have HLD : Hid (∀ wr L, Dn w wr G D2 L 8 → Calls Try.prog 19 #[.pointer (some ⟨G, 0, none⟩)] wr fun e w' => e = .returned (.tuple #[.agg #[.int .u64 x.seq, .int .u32 x.ep, .int .u32 x.tail, .int .u64 x.lsn, .int .u32 x.last, .int .i64 x.pg, .int .i64 x.un, .int .i64 x.lg, .int .u32 x.mx], .int .i64 0, .int .i64 0]) ∧ Goes w wr G (loadD D2) L 8 w') := fun wr L h => by
          have := h.load HO2.out
          rw [hlr] at this; exact this
        clear hlr
        go_upto_region 6 with (first
          | (go_at_call 19; refine (HLD.out _ _ hd4).mono ?_; clear HLD; rintro ex w5 ⟨rfl, L5, hd5, hk5⟩
             have ql : Row (w5.alloc (.cells #[.int .u64 0, .int .u32 0, .int .u32 0, .int .u64 0, .int .u32 0, .int .i64 0, .int .i64 0, .int .i64 0, .int .u32 0] 27)) w5.heap.size #[.int .u64 0, .int .u32 0, .int .u32 0, .int .u64 0, .int .u32 0, .int .i64 0, .int .i64 0, .int .i64 0, .int .u32 0] 27 := Row.new _ _ _)
          | (refine store_cells rfl 27 (.tmp 8) (.tmp 38) rfl w5.heap.size #[.int .u64 x.seq, .int .u32 x.ep, .int .u32 x.tail, .int .u64 x.lsn, .int .u32 x.last, .int .i64 x.pg, .int .i64 x.un, .int .i64 x.lg, .int .u32 x.mx] rfl rfl 27 _ ql 9 size27 rfl rfl (by simp [Value.oneCell']) ?_))
        have r0 := (hk5 _ _ _ r0 n0).1
        have r1 := (hk5 _ _ _ r1 n1).1
        have l50 := r0.lt
        have l51 := r1.lt
        have wb := hd5.be
        have r0 := (r0.alloc (.cells #[.int .u64 0, .int .u32 0, .int .u32 0, .int .u64 0, .int .u32 0, .int .i64 0, .int .i64 0, .int .i64 0, .int .u32 0] 27)).other (g := w5.heap.size) (by omega) #[.int .u64 x.seq, .int .u32 x.ep, .int .u32 x.tail, .int .u64 x.lsn, .int .u32 x.last, .int .i64 x.pg, .int .i64 x.un, .int .i64 x.lg, .int .u32 x.mx]
        have r1 := (r1.alloc (.cells #[.int .u64 0, .int .u32 0, .int .u32 0, .int .u64 0, .int .u32 0, .int .i64 0, .int .i64 0, .int .i64 0, .int .u32 0] 27)).other (g := w5.heap.size) (by omega) #[.int .u64 x.seq, .int .u32 x.ep, .int .u32 x.tail, .int .u64 x.lsn, .int .u32 x.last, .int .i64 x.pg, .int .i64 x.un, .int .i64 x.lg, .int .u32 x.mx]
        have ql := ql.set #[.int .u64 x.seq, .int .u32 x.ep, .int .u32 x.tail, .int .u64 x.lsn, .int .u32 x.last, .int .i64 x.pg, .int .i64 x.un, .int .i64 x.lg, .int .u32 x.mx]
        have wb := below_setRow (wb.alloc wb.size (.cells #[.int .u64 0, .int .u32 0, .int .u32 0, .int .u64 0, .int .u32 0, .int .i64 0, .int .i64 0, .int .i64 0, .int .u32 0] 27)) wb.size #[.int .u64 x.seq, .int .u32 x.ep, .int .u32 x.tail, .int .u64 x.lsn, .int .u32 x.last, .int .i64 x.pg, .int .i64 x.un, .int .i64 x.lg, .int .u32 x.mx]
        clear hk5 hd5 hd4 n0 n1
        show Code.wp _ _ _ _ ((w5.alloc (.cells #[.int .u64 0, .int .u32 0, .int .u32 0, .int .u64 0, .int .u32 0, .int .i64 0, .int .i64 0, .int .i64 0, .int .u32 0] 27)).setRow w5.heap.size #[.int .u64 x.seq, .int .u32 x.ep, .int .u32 x.tail, .int .u64 x.lsn, .int .u32 x.last, .int .i64 x.pg, .int .i64 x.un, .int .i64 x.lg, .int .u32 x.mx])
        generalize (w5.alloc (.cells #[.int .u64 0, .int .u32 0, .int .u32 0, .int .u64 0, .int .u32 0, .int .i64 0, .int .i64 0, .int .i64 0, .int .u32 0] 27)).setRow w5.heap.size #[.int .u64 x.seq, .int .u32 x.ep, .int .u32 x.tail, .int .u64 x.lsn, .int .u32 x.last, .int .i64 x.pg, .int .i64 x.un, .int .i64 x.lg, .int .u32 x.mx] = w5x at r0 r1 ql wb ⊢
        generalize w5.heap.size = gl at ql l50 l51 ⊢
        go_upto_region 9 with (first
          | (refine load_row rfl 29 (.tmp 3) rfl w.heap.size rfl 29 (bs a) r0 256 5 Try.underlying29 size29 hab ?_)
          | (go_at_call 11; refine (HUA.out _).mono ?_; clear HUA; rintro ex w6 ⟨rfl, h6⟩
             have qx : Row (w6.alloc (.cells #[.int .u64 0, .int .u32 0, .int .u32 0, .int .u64 0, .int .u32 0, .int .i64 0, .int .i64 0, .int .i64 0, .int .u32 0] 27)) w6.heap.size #[.int .u64 0, .int .u32 0, .int .u32 0, .int .u64 0, .int .u32 0, .int .i64 0, .int .i64 0, .int .i64 0, .int .u32 0] 27 := Row.new _ _ _)
          | (refine store_cells rfl 27 (.tmp 11) (.tmp 64) rfl w6.heap.size #[.int .u64 x.seq, .int .u32 x.ep, .int .u32 x.tail, .int .u64 x.lsn, .int .u32 x.last, .int .i64 x.pg, .int .i64 x.un, .int .i64 x.lg, .int .u32 x.mx] rfl rfl 27 _ qx 9 size27 rfl rfl (by simp [Value.oneCell']) ?_))
        have r0 := r0.below h6 r0.lt
        have r1 := r1.below h6 r1.lt
        have ql := ql.below h6 ql.lt
        have lgxr0 := r0.lt
        have lgxr1 := r1.lt
        have lgxql := ql.lt
        have wb := wb.trans (h6.mono wb.size)
        have r0 := (r0.alloc (.cells #[.int .u64 0, .int .u32 0, .int .u32 0, .int .u64 0, .int .u32 0, .int .i64 0, .int .i64 0, .int .i64 0, .int .u32 0] 27)).other (g := w6.heap.size) (by omega) #[.int .u64 x.seq, .int .u32 x.ep, .int .u32 x.tail, .int .u64 x.lsn, .int .u32 x.last, .int .i64 x.pg, .int .i64 x.un, .int .i64 x.lg, .int .u32 x.mx]
        have r1 := (r1.alloc (.cells #[.int .u64 0, .int .u32 0, .int .u32 0, .int .u64 0, .int .u32 0, .int .i64 0, .int .i64 0, .int .i64 0, .int .u32 0] 27)).other (g := w6.heap.size) (by omega) #[.int .u64 x.seq, .int .u32 x.ep, .int .u32 x.tail, .int .u64 x.lsn, .int .u32 x.last, .int .i64 x.pg, .int .i64 x.un, .int .i64 x.lg, .int .u32 x.mx]
        have ql := (ql.alloc (.cells #[.int .u64 0, .int .u32 0, .int .u32 0, .int .u64 0, .int .u32 0, .int .i64 0, .int .i64 0, .int .i64 0, .int .u32 0] 27)).other (g := w6.heap.size) (by omega) #[.int .u64 x.seq, .int .u32 x.ep, .int .u32 x.tail, .int .u64 x.lsn, .int .u32 x.last, .int .i64 x.pg, .int .i64 x.un, .int .i64 x.lg, .int .u32 x.mx]
        have qx := qx.set #[.int .u64 x.seq, .int .u32 x.ep, .int .u32 x.tail, .int .u64 x.lsn, .int .u32 x.last, .int .i64 x.pg, .int .i64 x.un, .int .i64 x.lg, .int .u32 x.mx]
        have wb := below_setRow (wb.alloc wb.size (.cells #[.int .u64 0, .int .u32 0, .int .u32 0, .int .u64 0, .int .u32 0, .int .i64 0, .int .i64 0, .int .i64 0, .int .u32 0] 27)) wb.size #[.int .u64 x.seq, .int .u32 x.ep, .int .u32 x.tail, .int .u64 x.lsn, .int .u32 x.last, .int .i64 x.pg, .int .i64 x.un, .int .i64 x.lg, .int .u32 x.mx]
        clear h6
        show Code.wp _ _ _ _ ((w6.alloc (.cells #[.int .u64 0, .int .u32 0, .int .u32 0, .int .u64 0, .int .u32 0, .int .i64 0, .int .i64 0, .int .i64 0, .int .u32 0] 27)).setRow w6.heap.size #[.int .u64 x.seq, .int .u32 x.ep, .int .u32 x.tail, .int .u64 x.lsn, .int .u32 x.last, .int .i64 x.pg, .int .i64 x.un, .int .i64 x.lg, .int .u32 x.mx])
        generalize (w6.alloc (.cells #[.int .u64 0, .int .u32 0, .int .u32 0, .int .u64 0, .int .u32 0, .int .i64 0, .int .i64 0, .int .i64 0, .int .u32 0] 27)).setRow w6.heap.size #[.int .u64 x.seq, .int .u32 x.ep, .int .u32 x.tail, .int .u64 x.lsn, .int .u32 x.last, .int .i64 x.pg, .int .i64 x.un, .int .i64 x.lg, .int .u32 x.mx] = w6x at r0 r1 ql qx wb ⊢
        generalize w6.heap.size = gx at qx lgxr0 lgxr1 lgxql ⊢
        go_upto_region 10 with (first
          | (refine load_row rfl 29 (.tmp 4) rfl (w.heap.size + 1) rfl 29 (bs b) r1 256 5 Try.underlying29 size29 hbb ?_)
          | (go_at_call 11; refine (HUB.out _).mono ?_; clear HUB; rintro ex w7 ⟨rfl, h7⟩
             have qy : Row (w7.alloc (.cells #[.int .u64 0, .int .u32 0, .int .u32 0, .int .u64 0, .int .u32 0, .int .i64 0, .int .i64 0, .int .i64 0, .int .u32 0] 27)) w7.heap.size #[.int .u64 0, .int .u32 0, .int .u32 0, .int .u64 0, .int .u32 0, .int .i64 0, .int .i64 0, .int .i64 0, .int .u32 0] 27 := Row.new _ _ _)
          | (refine store_cells rfl 27 (.tmp 13) (.tmp 69) rfl w7.heap.size #[.int .u64 y.seq, .int .u32 y.ep, .int .u32 y.tail, .int .u64 y.lsn, .int .u32 y.last, .int .i64 y.pg, .int .i64 y.un, .int .i64 y.lg, .int .u32 y.mx] rfl rfl 27 _ qy 9 size27 rfl rfl (by simp [Value.oneCell']) ?_))
        have r0 := r0.below h7 r0.lt
        have r1 := r1.below h7 r1.lt
        have ql := ql.below h7 ql.lt
        have qx := qx.below h7 qx.lt
        have lgyr0 := r0.lt
        have lgyr1 := r1.lt
        have lgyql := ql.lt
        have lgyqx := qx.lt
        have wb := wb.trans (h7.mono wb.size)
        have r0 := (r0.alloc (.cells #[.int .u64 0, .int .u32 0, .int .u32 0, .int .u64 0, .int .u32 0, .int .i64 0, .int .i64 0, .int .i64 0, .int .u32 0] 27)).other (g := w7.heap.size) (by omega) #[.int .u64 y.seq, .int .u32 y.ep, .int .u32 y.tail, .int .u64 y.lsn, .int .u32 y.last, .int .i64 y.pg, .int .i64 y.un, .int .i64 y.lg, .int .u32 y.mx]
        have r1 := (r1.alloc (.cells #[.int .u64 0, .int .u32 0, .int .u32 0, .int .u64 0, .int .u32 0, .int .i64 0, .int .i64 0, .int .i64 0, .int .u32 0] 27)).other (g := w7.heap.size) (by omega) #[.int .u64 y.seq, .int .u32 y.ep, .int .u32 y.tail, .int .u64 y.lsn, .int .u32 y.last, .int .i64 y.pg, .int .i64 y.un, .int .i64 y.lg, .int .u32 y.mx]
        have ql := (ql.alloc (.cells #[.int .u64 0, .int .u32 0, .int .u32 0, .int .u64 0, .int .u32 0, .int .i64 0, .int .i64 0, .int .i64 0, .int .u32 0] 27)).other (g := w7.heap.size) (by omega) #[.int .u64 y.seq, .int .u32 y.ep, .int .u32 y.tail, .int .u64 y.lsn, .int .u32 y.last, .int .i64 y.pg, .int .i64 y.un, .int .i64 y.lg, .int .u32 y.mx]
        have qx := (qx.alloc (.cells #[.int .u64 0, .int .u32 0, .int .u32 0, .int .u64 0, .int .u32 0, .int .i64 0, .int .i64 0, .int .i64 0, .int .u32 0] 27)).other (g := w7.heap.size) (by omega) #[.int .u64 y.seq, .int .u32 y.ep, .int .u32 y.tail, .int .u64 y.lsn, .int .u32 y.last, .int .i64 y.pg, .int .i64 y.un, .int .i64 y.lg, .int .u32 y.mx]
        have qy := qy.set #[.int .u64 y.seq, .int .u32 y.ep, .int .u32 y.tail, .int .u64 y.lsn, .int .u32 y.last, .int .i64 y.pg, .int .i64 y.un, .int .i64 y.lg, .int .u32 y.mx]
        have wb := below_setRow (wb.alloc wb.size (.cells #[.int .u64 0, .int .u32 0, .int .u32 0, .int .u64 0, .int .u32 0, .int .i64 0, .int .i64 0, .int .i64 0, .int .u32 0] 27)) wb.size #[.int .u64 y.seq, .int .u32 y.ep, .int .u32 y.tail, .int .u64 y.lsn, .int .u32 y.last, .int .i64 y.pg, .int .i64 y.un, .int .i64 y.lg, .int .u32 y.mx]
        clear h7
        show Code.wp _ _ _ _ ((w7.alloc (.cells #[.int .u64 0, .int .u32 0, .int .u32 0, .int .u64 0, .int .u32 0, .int .i64 0, .int .i64 0, .int .i64 0, .int .u32 0] 27)).setRow w7.heap.size #[.int .u64 y.seq, .int .u32 y.ep, .int .u32 y.tail, .int .u64 y.lsn, .int .u32 y.last, .int .i64 y.pg, .int .i64 y.un, .int .i64 y.lg, .int .u32 y.mx])
        generalize (w7.alloc (.cells #[.int .u64 0, .int .u32 0, .int .u32 0, .int .u64 0, .int .u32 0, .int .i64 0, .int .i64 0, .int .i64 0, .int .u32 0] 27)).setRow w7.heap.size #[.int .u64 y.seq, .int .u32 y.ep, .int .u32 y.tail, .int .u64 y.lsn, .int .u32 y.last, .int .i64 y.pg, .int .i64 y.un, .int .i64 y.lg, .int .u32 y.mx] = w7x at r0 r1 ql qx qy wb ⊢
        generalize w7.heap.size = gy at qy lgyr0 lgyr1 lgyql lgyqx ⊢
        have cx := row_at qx 0 (.int .u64 x.seq) rfl
        have cy := row_at qy 0 (.int .u64 y.seq) rfl
        go_wp2_with (first
          | (refine load_cells_g rfl 27 (.tmp 8) rfl gl rfl 27 #[.int .u64 x.seq, .int .u32 x.ep, .int .u32 x.tail, .int .u64 x.lsn, .int .u32 x.last, .int .i64 x.pg, .int .i64 x.un, .int .i64 x.lg, .int .u32 x.mx] ql 9 Try.underlying27 rfl size27 rfl ?_)
          | (refine load_cells_g rfl 27 (.tmp 11) rfl gx rfl 27 #[.int .u64 x.seq, .int .u32 x.ep, .int .u32 x.tail, .int .u64 x.lsn, .int .u32 x.last, .int .i64 x.pg, .int .i64 x.un, .int .i64 x.lg, .int .u32 x.mx] qx 9 Try.underlying27 rfl size27 rfl ?_)
          | (go_at_call 15; refine (HA.out _).mono ?_; clear HA; rintro ex wf ⟨rfl, hf⟩; have wb := wb.trans (hf.mono wb.size)))
        go_ret
        exact ⟨rfl, wb⟩
      · by_cases hs : y.seq ≤ x.seq
        · rw [LF rfl (Or.inr hs)] at hlr
          clear LF LS LN
          have heq := hex.out
          have HLD : Hid (∀ wr L, Dn w wr G D2 L 8 → Calls Try.prog 19 #[.pointer (some ⟨G, 0, none⟩)] wr fun e w' => e = .returned (.tuple #[.agg #[.int .u64 x.seq, .int .u32 x.ep, .int .u32 x.tail, .int .u64 x.lsn, .int .u32 x.last, .int .i64 x.pg, .int .i64 x.un, .int .i64 x.lg, .int .u32 x.mx], .int .i64 0, .int .i64 0]) ∧ Goes w wr G (loadD D2) L 8 w') := fun wr L h => by
            have := h.load HO2.out
            rw [hlr] at this; exact this
          clear hlr
          go_upto_region 6 with (first
            | (go_at_call 19; refine (HLD.out _ _ hd4).mono ?_; clear HLD; rintro ex w5 ⟨rfl, L5, hd5, hk5⟩
               have ql : Row (w5.alloc (.cells #[.int .u64 0, .int .u32 0, .int .u32 0, .int .u64 0, .int .u32 0, .int .i64 0, .int .i64 0, .int .i64 0, .int .u32 0] 27)) w5.heap.size #[.int .u64 0, .int .u32 0, .int .u32 0, .int .u64 0, .int .u32 0, .int .i64 0, .int .i64 0, .int .i64 0, .int .u32 0] 27 := Row.new _ _ _)
            | (refine store_cells rfl 27 (.tmp 8) (.tmp 38) rfl w5.heap.size #[.int .u64 x.seq, .int .u32 x.ep, .int .u32 x.tail, .int .u64 x.lsn, .int .u32 x.last, .int .i64 x.pg, .int .i64 x.un, .int .i64 x.lg, .int .u32 x.mx] rfl rfl 27 _ ql 9 size27 rfl rfl (by simp [Value.oneCell']) ?_))
          have r0 := (hk5 _ _ _ r0 n0).1
          have r1 := (hk5 _ _ _ r1 n1).1
          have l50 := r0.lt
          have l51 := r1.lt
          have wb := hd5.be
          have r0 := (r0.alloc (.cells #[.int .u64 0, .int .u32 0, .int .u32 0, .int .u64 0, .int .u32 0, .int .i64 0, .int .i64 0, .int .i64 0, .int .u32 0] 27)).other (g := w5.heap.size) (by omega) #[.int .u64 x.seq, .int .u32 x.ep, .int .u32 x.tail, .int .u64 x.lsn, .int .u32 x.last, .int .i64 x.pg, .int .i64 x.un, .int .i64 x.lg, .int .u32 x.mx]
          have r1 := (r1.alloc (.cells #[.int .u64 0, .int .u32 0, .int .u32 0, .int .u64 0, .int .u32 0, .int .i64 0, .int .i64 0, .int .i64 0, .int .u32 0] 27)).other (g := w5.heap.size) (by omega) #[.int .u64 x.seq, .int .u32 x.ep, .int .u32 x.tail, .int .u64 x.lsn, .int .u32 x.last, .int .i64 x.pg, .int .i64 x.un, .int .i64 x.lg, .int .u32 x.mx]
          have ql := ql.set #[.int .u64 x.seq, .int .u32 x.ep, .int .u32 x.tail, .int .u64 x.lsn, .int .u32 x.last, .int .i64 x.pg, .int .i64 x.un, .int .i64 x.lg, .int .u32 x.mx]
          have wb := below_setRow (wb.alloc wb.size (.cells #[.int .u64 0, .int .u32 0, .int .u32 0, .int .u64 0, .int .u32 0, .int .i64 0, .int .i64 0, .int .i64 0, .int .u32 0] 27)) wb.size #[.int .u64 x.seq, .int .u32 x.ep, .int .u32 x.tail, .int .u64 x.lsn, .int .u32 x.last, .int .i64 x.pg, .int .i64 x.un, .int .i64 x.lg, .int .u32 x.mx]
          clear hk5 hd5 hd4 n0 n1
          show Code.wp _ _ _ _ ((w5.alloc (.cells #[.int .u64 0, .int .u32 0, .int .u32 0, .int .u64 0, .int .u32 0, .int .i64 0, .int .i64 0, .int .i64 0, .int .u32 0] 27)).setRow w5.heap.size #[.int .u64 x.seq, .int .u32 x.ep, .int .u32 x.tail, .int .u64 x.lsn, .int .u32 x.last, .int .i64 x.pg, .int .i64 x.un, .int .i64 x.lg, .int .u32 x.mx])
          generalize (w5.alloc (.cells #[.int .u64 0, .int .u32 0, .int .u32 0, .int .u64 0, .int .u32 0, .int .i64 0, .int .i64 0, .int .i64 0, .int .u32 0] 27)).setRow w5.heap.size #[.int .u64 x.seq, .int .u32 x.ep, .int .u32 x.tail, .int .u64 x.lsn, .int .u32 x.last, .int .i64 x.pg, .int .i64 x.un, .int .i64 x.lg, .int .u32 x.mx] = w5x at r0 r1 ql wb ⊢
          generalize w5.heap.size = gl at ql l50 l51 ⊢
          go_upto_region 9 with (first
            | (refine load_row rfl 29 (.tmp 3) rfl w.heap.size rfl 29 (bs a) r0 256 5 Try.underlying29 size29 hab ?_)
            | (go_at_call 11; refine (HUA.out _).mono ?_; clear HUA; rintro ex w6 ⟨rfl, h6⟩
               have qx : Row (w6.alloc (.cells #[.int .u64 0, .int .u32 0, .int .u32 0, .int .u64 0, .int .u32 0, .int .i64 0, .int .i64 0, .int .i64 0, .int .u32 0] 27)) w6.heap.size #[.int .u64 0, .int .u32 0, .int .u32 0, .int .u64 0, .int .u32 0, .int .i64 0, .int .i64 0, .int .i64 0, .int .u32 0] 27 := Row.new _ _ _)
            | (refine store_cells rfl 27 (.tmp 11) (.tmp 64) rfl w6.heap.size #[.int .u64 x.seq, .int .u32 x.ep, .int .u32 x.tail, .int .u64 x.lsn, .int .u32 x.last, .int .i64 x.pg, .int .i64 x.un, .int .i64 x.lg, .int .u32 x.mx] rfl rfl 27 _ qx 9 size27 rfl rfl (by simp [Value.oneCell']) ?_))
          have r0 := r0.below h6 r0.lt
          have r1 := r1.below h6 r1.lt
          have ql := ql.below h6 ql.lt
          have lgxr0 := r0.lt
          have lgxr1 := r1.lt
          have lgxql := ql.lt
          have wb := wb.trans (h6.mono wb.size)
          have r0 := (r0.alloc (.cells #[.int .u64 0, .int .u32 0, .int .u32 0, .int .u64 0, .int .u32 0, .int .i64 0, .int .i64 0, .int .i64 0, .int .u32 0] 27)).other (g := w6.heap.size) (by omega) #[.int .u64 x.seq, .int .u32 x.ep, .int .u32 x.tail, .int .u64 x.lsn, .int .u32 x.last, .int .i64 x.pg, .int .i64 x.un, .int .i64 x.lg, .int .u32 x.mx]
          have r1 := (r1.alloc (.cells #[.int .u64 0, .int .u32 0, .int .u32 0, .int .u64 0, .int .u32 0, .int .i64 0, .int .i64 0, .int .i64 0, .int .u32 0] 27)).other (g := w6.heap.size) (by omega) #[.int .u64 x.seq, .int .u32 x.ep, .int .u32 x.tail, .int .u64 x.lsn, .int .u32 x.last, .int .i64 x.pg, .int .i64 x.un, .int .i64 x.lg, .int .u32 x.mx]
          have ql := (ql.alloc (.cells #[.int .u64 0, .int .u32 0, .int .u32 0, .int .u64 0, .int .u32 0, .int .i64 0, .int .i64 0, .int .i64 0, .int .u32 0] 27)).other (g := w6.heap.size) (by omega) #[.int .u64 x.seq, .int .u32 x.ep, .int .u32 x.tail, .int .u64 x.lsn, .int .u32 x.last, .int .i64 x.pg, .int .i64 x.un, .int .i64 x.lg, .int .u32 x.mx]
          have qx := qx.set #[.int .u64 x.seq, .int .u32 x.ep, .int .u32 x.tail, .int .u64 x.lsn, .int .u32 x.last, .int .i64 x.pg, .int .i64 x.un, .int .i64 x.lg, .int .u32 x.mx]
          have wb := below_setRow (wb.alloc wb.size (.cells #[.int .u64 0, .int .u32 0, .int .u32 0, .int .u64 0, .int .u32 0, .int .i64 0, .int .i64 0, .int .i64 0, .int .u32 0] 27)) wb.size #[.int .u64 x.seq, .int .u32 x.ep, .int .u32 x.tail, .int .u64 x.lsn, .int .u32 x.last, .int .i64 x.pg, .int .i64 x.un, .int .i64 x.lg, .int .u32 x.mx]
          clear h6
          show Code.wp _ _ _ _ ((w6.alloc (.cells #[.int .u64 0, .int .u32 0, .int .u32 0, .int .u64 0, .int .u32 0, .int .i64 0, .int .i64 0, .int .i64 0, .int .u32 0] 27)).setRow w6.heap.size #[.int .u64 x.seq, .int .u32 x.ep, .int .u32 x.tail, .int .u64 x.lsn, .int .u32 x.last, .int .i64 x.pg, .int .i64 x.un, .int .i64 x.lg, .int .u32 x.mx])
          generalize (w6.alloc (.cells #[.int .u64 0, .int .u32 0, .int .u32 0, .int .u64 0, .int .u32 0, .int .i64 0, .int .i64 0, .int .i64 0, .int .u32 0] 27)).setRow w6.heap.size #[.int .u64 x.seq, .int .u32 x.ep, .int .u32 x.tail, .int .u64 x.lsn, .int .u32 x.last, .int .i64 x.pg, .int .i64 x.un, .int .i64 x.lg, .int .u32 x.mx] = w6x at r0 r1 ql qx wb ⊢
          generalize w6.heap.size = gx at qx lgxr0 lgxr1 lgxql ⊢
          go_upto_region 10 with (first
            | (refine load_row rfl 29 (.tmp 4) rfl (w.heap.size + 1) rfl 29 (bs b) r1 256 5 Try.underlying29 size29 hbb ?_)
            | (go_at_call 11; refine (HUB.out _).mono ?_; clear HUB; rintro ex w7 ⟨rfl, h7⟩
               have qy : Row (w7.alloc (.cells #[.int .u64 0, .int .u32 0, .int .u32 0, .int .u64 0, .int .u32 0, .int .i64 0, .int .i64 0, .int .i64 0, .int .u32 0] 27)) w7.heap.size #[.int .u64 0, .int .u32 0, .int .u32 0, .int .u64 0, .int .u32 0, .int .i64 0, .int .i64 0, .int .i64 0, .int .u32 0] 27 := Row.new _ _ _)
            | (refine store_cells rfl 27 (.tmp 13) (.tmp 69) rfl w7.heap.size #[.int .u64 y.seq, .int .u32 y.ep, .int .u32 y.tail, .int .u64 y.lsn, .int .u32 y.last, .int .i64 y.pg, .int .i64 y.un, .int .i64 y.lg, .int .u32 y.mx] rfl rfl 27 _ qy 9 size27 rfl rfl (by simp [Value.oneCell']) ?_))
          have r0 := r0.below h7 r0.lt
          have r1 := r1.below h7 r1.lt
          have ql := ql.below h7 ql.lt
          have qx := qx.below h7 qx.lt
          have lgyr0 := r0.lt
          have lgyr1 := r1.lt
          have lgyql := ql.lt
          have lgyqx := qx.lt
          have wb := wb.trans (h7.mono wb.size)
          have r0 := (r0.alloc (.cells #[.int .u64 0, .int .u32 0, .int .u32 0, .int .u64 0, .int .u32 0, .int .i64 0, .int .i64 0, .int .i64 0, .int .u32 0] 27)).other (g := w7.heap.size) (by omega) #[.int .u64 y.seq, .int .u32 y.ep, .int .u32 y.tail, .int .u64 y.lsn, .int .u32 y.last, .int .i64 y.pg, .int .i64 y.un, .int .i64 y.lg, .int .u32 y.mx]
          have r1 := (r1.alloc (.cells #[.int .u64 0, .int .u32 0, .int .u32 0, .int .u64 0, .int .u32 0, .int .i64 0, .int .i64 0, .int .i64 0, .int .u32 0] 27)).other (g := w7.heap.size) (by omega) #[.int .u64 y.seq, .int .u32 y.ep, .int .u32 y.tail, .int .u64 y.lsn, .int .u32 y.last, .int .i64 y.pg, .int .i64 y.un, .int .i64 y.lg, .int .u32 y.mx]
          have ql := (ql.alloc (.cells #[.int .u64 0, .int .u32 0, .int .u32 0, .int .u64 0, .int .u32 0, .int .i64 0, .int .i64 0, .int .i64 0, .int .u32 0] 27)).other (g := w7.heap.size) (by omega) #[.int .u64 y.seq, .int .u32 y.ep, .int .u32 y.tail, .int .u64 y.lsn, .int .u32 y.last, .int .i64 y.pg, .int .i64 y.un, .int .i64 y.lg, .int .u32 y.mx]
          have qx := (qx.alloc (.cells #[.int .u64 0, .int .u32 0, .int .u32 0, .int .u64 0, .int .u32 0, .int .i64 0, .int .i64 0, .int .i64 0, .int .u32 0] 27)).other (g := w7.heap.size) (by omega) #[.int .u64 y.seq, .int .u32 y.ep, .int .u32 y.tail, .int .u64 y.lsn, .int .u32 y.last, .int .i64 y.pg, .int .i64 y.un, .int .i64 y.lg, .int .u32 y.mx]
          have qy := qy.set #[.int .u64 y.seq, .int .u32 y.ep, .int .u32 y.tail, .int .u64 y.lsn, .int .u32 y.last, .int .i64 y.pg, .int .i64 y.un, .int .i64 y.lg, .int .u32 y.mx]
          have wb := below_setRow (wb.alloc wb.size (.cells #[.int .u64 0, .int .u32 0, .int .u32 0, .int .u64 0, .int .u32 0, .int .i64 0, .int .i64 0, .int .i64 0, .int .u32 0] 27)) wb.size #[.int .u64 y.seq, .int .u32 y.ep, .int .u32 y.tail, .int .u64 y.lsn, .int .u32 y.last, .int .i64 y.pg, .int .i64 y.un, .int .i64 y.lg, .int .u32 y.mx]
          clear h7
          show Code.wp _ _ _ _ ((w7.alloc (.cells #[.int .u64 0, .int .u32 0, .int .u32 0, .int .u64 0, .int .u32 0, .int .i64 0, .int .i64 0, .int .i64 0, .int .u32 0] 27)).setRow w7.heap.size #[.int .u64 y.seq, .int .u32 y.ep, .int .u32 y.tail, .int .u64 y.lsn, .int .u32 y.last, .int .i64 y.pg, .int .i64 y.un, .int .i64 y.lg, .int .u32 y.mx])
          generalize (w7.alloc (.cells #[.int .u64 0, .int .u32 0, .int .u32 0, .int .u64 0, .int .u32 0, .int .i64 0, .int .i64 0, .int .i64 0, .int .u32 0] 27)).setRow w7.heap.size #[.int .u64 y.seq, .int .u32 y.ep, .int .u32 y.tail, .int .u64 y.lsn, .int .u32 y.last, .int .i64 y.pg, .int .i64 y.un, .int .i64 y.lg, .int .u32 y.mx] = w7x at r0 r1 ql qx qy wb ⊢
          generalize w7.heap.size = gy at qy lgyr0 lgyr1 lgyql lgyqx ⊢
          have cx := row_at qx 0 (.int .u64 x.seq) rfl
          have cy := row_at qy 0 (.int .u64 y.seq) rfl
          go_wp2_with (first
            | (refine load_cells_g rfl 27 (.tmp 8) rfl gl rfl 27 #[.int .u64 x.seq, .int .u32 x.ep, .int .u32 x.tail, .int .u64 x.lsn, .int .u32 x.last, .int .i64 x.pg, .int .i64 x.un, .int .i64 x.lg, .int .u32 x.mx] ql 9 Try.underlying27 rfl size27 rfl ?_)
            | (refine load_cells_g rfl 27 (.tmp 11) rfl gx rfl 27 #[.int .u64 x.seq, .int .u32 x.ep, .int .u32 x.tail, .int .u64 x.lsn, .int .u32 x.last, .int .i64 x.pg, .int .i64 x.un, .int .i64 x.lg, .int .u32 x.mx] qx 9 Try.underlying27 rfl size27 rfl ?_)
            | (go_at_call 15; refine (HA.out _).mono ?_; clear HA; rintro ex wf ⟨rfl, hf⟩; have wb := wb.trans (hf.mono wb.size)))
          go_ret
          exact ⟨rfl, wb⟩
        · have hs' : x.seq < y.seq := by omega
          rw [LS rfl (Or.inr hs')] at hlr
          clear LF LS LN
          have heq := hey.out
          have HLD : Hid (∀ wr L, Dn w wr G D2 L 8 → Calls Try.prog 19 #[.pointer (some ⟨G, 0, none⟩)] wr fun e w' => e = .returned (.tuple #[.agg #[.int .u64 y.seq, .int .u32 y.ep, .int .u32 y.tail, .int .u64 y.lsn, .int .u32 y.last, .int .i64 y.pg, .int .i64 y.un, .int .i64 y.lg, .int .u32 y.mx], .int .i64 1, .int .i64 0]) ∧ Goes w wr G (loadD D2) L 8 w') := fun wr L h => by
            have := h.load HO2.out
            rw [hlr] at this; exact this
          clear hlr
          go_upto_region 6 with (first
            | (go_at_call 19; refine (HLD.out _ _ hd4).mono ?_; clear HLD; rintro ex w5 ⟨rfl, L5, hd5, hk5⟩
               have ql : Row (w5.alloc (.cells #[.int .u64 0, .int .u32 0, .int .u32 0, .int .u64 0, .int .u32 0, .int .i64 0, .int .i64 0, .int .i64 0, .int .u32 0] 27)) w5.heap.size #[.int .u64 0, .int .u32 0, .int .u32 0, .int .u64 0, .int .u32 0, .int .i64 0, .int .i64 0, .int .i64 0, .int .u32 0] 27 := Row.new _ _ _)
            | (refine store_cells rfl 27 (.tmp 8) (.tmp 38) rfl w5.heap.size #[.int .u64 y.seq, .int .u32 y.ep, .int .u32 y.tail, .int .u64 y.lsn, .int .u32 y.last, .int .i64 y.pg, .int .i64 y.un, .int .i64 y.lg, .int .u32 y.mx] rfl rfl 27 _ ql 9 size27 rfl rfl (by simp [Value.oneCell']) ?_))
          have r0 := (hk5 _ _ _ r0 n0).1
          have r1 := (hk5 _ _ _ r1 n1).1
          have l50 := r0.lt
          have l51 := r1.lt
          have wb := hd5.be
          have r0 := (r0.alloc (.cells #[.int .u64 0, .int .u32 0, .int .u32 0, .int .u64 0, .int .u32 0, .int .i64 0, .int .i64 0, .int .i64 0, .int .u32 0] 27)).other (g := w5.heap.size) (by omega) #[.int .u64 y.seq, .int .u32 y.ep, .int .u32 y.tail, .int .u64 y.lsn, .int .u32 y.last, .int .i64 y.pg, .int .i64 y.un, .int .i64 y.lg, .int .u32 y.mx]
          have r1 := (r1.alloc (.cells #[.int .u64 0, .int .u32 0, .int .u32 0, .int .u64 0, .int .u32 0, .int .i64 0, .int .i64 0, .int .i64 0, .int .u32 0] 27)).other (g := w5.heap.size) (by omega) #[.int .u64 y.seq, .int .u32 y.ep, .int .u32 y.tail, .int .u64 y.lsn, .int .u32 y.last, .int .i64 y.pg, .int .i64 y.un, .int .i64 y.lg, .int .u32 y.mx]
          have ql := ql.set #[.int .u64 y.seq, .int .u32 y.ep, .int .u32 y.tail, .int .u64 y.lsn, .int .u32 y.last, .int .i64 y.pg, .int .i64 y.un, .int .i64 y.lg, .int .u32 y.mx]
          have wb := below_setRow (wb.alloc wb.size (.cells #[.int .u64 0, .int .u32 0, .int .u32 0, .int .u64 0, .int .u32 0, .int .i64 0, .int .i64 0, .int .i64 0, .int .u32 0] 27)) wb.size #[.int .u64 y.seq, .int .u32 y.ep, .int .u32 y.tail, .int .u64 y.lsn, .int .u32 y.last, .int .i64 y.pg, .int .i64 y.un, .int .i64 y.lg, .int .u32 y.mx]
          clear hk5 hd5 hd4 n0 n1
          show Code.wp _ _ _ _ ((w5.alloc (.cells #[.int .u64 0, .int .u32 0, .int .u32 0, .int .u64 0, .int .u32 0, .int .i64 0, .int .i64 0, .int .i64 0, .int .u32 0] 27)).setRow w5.heap.size #[.int .u64 y.seq, .int .u32 y.ep, .int .u32 y.tail, .int .u64 y.lsn, .int .u32 y.last, .int .i64 y.pg, .int .i64 y.un, .int .i64 y.lg, .int .u32 y.mx])
          generalize (w5.alloc (.cells #[.int .u64 0, .int .u32 0, .int .u32 0, .int .u64 0, .int .u32 0, .int .i64 0, .int .i64 0, .int .i64 0, .int .u32 0] 27)).setRow w5.heap.size #[.int .u64 y.seq, .int .u32 y.ep, .int .u32 y.tail, .int .u64 y.lsn, .int .u32 y.last, .int .i64 y.pg, .int .i64 y.un, .int .i64 y.lg, .int .u32 y.mx] = w5x at r0 r1 ql wb ⊢
          generalize w5.heap.size = gl at ql l50 l51 ⊢
          go_upto_region 9 with (first
            | (refine load_row rfl 29 (.tmp 3) rfl w.heap.size rfl 29 (bs a) r0 256 5 Try.underlying29 size29 hab ?_)
            | (go_at_call 11; refine (HUA.out _).mono ?_; clear HUA; rintro ex w6 ⟨rfl, h6⟩
               have qx : Row (w6.alloc (.cells #[.int .u64 0, .int .u32 0, .int .u32 0, .int .u64 0, .int .u32 0, .int .i64 0, .int .i64 0, .int .i64 0, .int .u32 0] 27)) w6.heap.size #[.int .u64 0, .int .u32 0, .int .u32 0, .int .u64 0, .int .u32 0, .int .i64 0, .int .i64 0, .int .i64 0, .int .u32 0] 27 := Row.new _ _ _)
            | (refine store_cells rfl 27 (.tmp 11) (.tmp 64) rfl w6.heap.size #[.int .u64 x.seq, .int .u32 x.ep, .int .u32 x.tail, .int .u64 x.lsn, .int .u32 x.last, .int .i64 x.pg, .int .i64 x.un, .int .i64 x.lg, .int .u32 x.mx] rfl rfl 27 _ qx 9 size27 rfl rfl (by simp [Value.oneCell']) ?_))
          have r0 := r0.below h6 r0.lt
          have r1 := r1.below h6 r1.lt
          have ql := ql.below h6 ql.lt
          have lgxr0 := r0.lt
          have lgxr1 := r1.lt
          have lgxql := ql.lt
          have wb := wb.trans (h6.mono wb.size)
          have r0 := (r0.alloc (.cells #[.int .u64 0, .int .u32 0, .int .u32 0, .int .u64 0, .int .u32 0, .int .i64 0, .int .i64 0, .int .i64 0, .int .u32 0] 27)).other (g := w6.heap.size) (by omega) #[.int .u64 x.seq, .int .u32 x.ep, .int .u32 x.tail, .int .u64 x.lsn, .int .u32 x.last, .int .i64 x.pg, .int .i64 x.un, .int .i64 x.lg, .int .u32 x.mx]
          have r1 := (r1.alloc (.cells #[.int .u64 0, .int .u32 0, .int .u32 0, .int .u64 0, .int .u32 0, .int .i64 0, .int .i64 0, .int .i64 0, .int .u32 0] 27)).other (g := w6.heap.size) (by omega) #[.int .u64 x.seq, .int .u32 x.ep, .int .u32 x.tail, .int .u64 x.lsn, .int .u32 x.last, .int .i64 x.pg, .int .i64 x.un, .int .i64 x.lg, .int .u32 x.mx]
          have ql := (ql.alloc (.cells #[.int .u64 0, .int .u32 0, .int .u32 0, .int .u64 0, .int .u32 0, .int .i64 0, .int .i64 0, .int .i64 0, .int .u32 0] 27)).other (g := w6.heap.size) (by omega) #[.int .u64 x.seq, .int .u32 x.ep, .int .u32 x.tail, .int .u64 x.lsn, .int .u32 x.last, .int .i64 x.pg, .int .i64 x.un, .int .i64 x.lg, .int .u32 x.mx]
          have qx := qx.set #[.int .u64 x.seq, .int .u32 x.ep, .int .u32 x.tail, .int .u64 x.lsn, .int .u32 x.last, .int .i64 x.pg, .int .i64 x.un, .int .i64 x.lg, .int .u32 x.mx]
          have wb := below_setRow (wb.alloc wb.size (.cells #[.int .u64 0, .int .u32 0, .int .u32 0, .int .u64 0, .int .u32 0, .int .i64 0, .int .i64 0, .int .i64 0, .int .u32 0] 27)) wb.size #[.int .u64 x.seq, .int .u32 x.ep, .int .u32 x.tail, .int .u64 x.lsn, .int .u32 x.last, .int .i64 x.pg, .int .i64 x.un, .int .i64 x.lg, .int .u32 x.mx]
          clear h6
          show Code.wp _ _ _ _ ((w6.alloc (.cells #[.int .u64 0, .int .u32 0, .int .u32 0, .int .u64 0, .int .u32 0, .int .i64 0, .int .i64 0, .int .i64 0, .int .u32 0] 27)).setRow w6.heap.size #[.int .u64 x.seq, .int .u32 x.ep, .int .u32 x.tail, .int .u64 x.lsn, .int .u32 x.last, .int .i64 x.pg, .int .i64 x.un, .int .i64 x.lg, .int .u32 x.mx])
          generalize (w6.alloc (.cells #[.int .u64 0, .int .u32 0, .int .u32 0, .int .u64 0, .int .u32 0, .int .i64 0, .int .i64 0, .int .i64 0, .int .u32 0] 27)).setRow w6.heap.size #[.int .u64 x.seq, .int .u32 x.ep, .int .u32 x.tail, .int .u64 x.lsn, .int .u32 x.last, .int .i64 x.pg, .int .i64 x.un, .int .i64 x.lg, .int .u32 x.mx] = w6x at r0 r1 ql qx wb ⊢
          generalize w6.heap.size = gx at qx lgxr0 lgxr1 lgxql ⊢
          go_upto_region 10 with (first
            | (refine load_row rfl 29 (.tmp 4) rfl (w.heap.size + 1) rfl 29 (bs b) r1 256 5 Try.underlying29 size29 hbb ?_)
            | (go_at_call 11; refine (HUB.out _).mono ?_; clear HUB; rintro ex w7 ⟨rfl, h7⟩
               have qy : Row (w7.alloc (.cells #[.int .u64 0, .int .u32 0, .int .u32 0, .int .u64 0, .int .u32 0, .int .i64 0, .int .i64 0, .int .i64 0, .int .u32 0] 27)) w7.heap.size #[.int .u64 0, .int .u32 0, .int .u32 0, .int .u64 0, .int .u32 0, .int .i64 0, .int .i64 0, .int .i64 0, .int .u32 0] 27 := Row.new _ _ _)
            | (refine store_cells rfl 27 (.tmp 13) (.tmp 69) rfl w7.heap.size #[.int .u64 y.seq, .int .u32 y.ep, .int .u32 y.tail, .int .u64 y.lsn, .int .u32 y.last, .int .i64 y.pg, .int .i64 y.un, .int .i64 y.lg, .int .u32 y.mx] rfl rfl 27 _ qy 9 size27 rfl rfl (by simp [Value.oneCell']) ?_))
          have r0 := r0.below h7 r0.lt
          have r1 := r1.below h7 r1.lt
          have ql := ql.below h7 ql.lt
          have qx := qx.below h7 qx.lt
          have lgyr0 := r0.lt
          have lgyr1 := r1.lt
          have lgyql := ql.lt
          have lgyqx := qx.lt
          have wb := wb.trans (h7.mono wb.size)
          have r0 := (r0.alloc (.cells #[.int .u64 0, .int .u32 0, .int .u32 0, .int .u64 0, .int .u32 0, .int .i64 0, .int .i64 0, .int .i64 0, .int .u32 0] 27)).other (g := w7.heap.size) (by omega) #[.int .u64 y.seq, .int .u32 y.ep, .int .u32 y.tail, .int .u64 y.lsn, .int .u32 y.last, .int .i64 y.pg, .int .i64 y.un, .int .i64 y.lg, .int .u32 y.mx]
          have r1 := (r1.alloc (.cells #[.int .u64 0, .int .u32 0, .int .u32 0, .int .u64 0, .int .u32 0, .int .i64 0, .int .i64 0, .int .i64 0, .int .u32 0] 27)).other (g := w7.heap.size) (by omega) #[.int .u64 y.seq, .int .u32 y.ep, .int .u32 y.tail, .int .u64 y.lsn, .int .u32 y.last, .int .i64 y.pg, .int .i64 y.un, .int .i64 y.lg, .int .u32 y.mx]
          have ql := (ql.alloc (.cells #[.int .u64 0, .int .u32 0, .int .u32 0, .int .u64 0, .int .u32 0, .int .i64 0, .int .i64 0, .int .i64 0, .int .u32 0] 27)).other (g := w7.heap.size) (by omega) #[.int .u64 y.seq, .int .u32 y.ep, .int .u32 y.tail, .int .u64 y.lsn, .int .u32 y.last, .int .i64 y.pg, .int .i64 y.un, .int .i64 y.lg, .int .u32 y.mx]
          have qx := (qx.alloc (.cells #[.int .u64 0, .int .u32 0, .int .u32 0, .int .u64 0, .int .u32 0, .int .i64 0, .int .i64 0, .int .i64 0, .int .u32 0] 27)).other (g := w7.heap.size) (by omega) #[.int .u64 y.seq, .int .u32 y.ep, .int .u32 y.tail, .int .u64 y.lsn, .int .u32 y.last, .int .i64 y.pg, .int .i64 y.un, .int .i64 y.lg, .int .u32 y.mx]
          have qy := qy.set #[.int .u64 y.seq, .int .u32 y.ep, .int .u32 y.tail, .int .u64 y.lsn, .int .u32 y.last, .int .i64 y.pg, .int .i64 y.un, .int .i64 y.lg, .int .u32 y.mx]
          have wb := below_setRow (wb.alloc wb.size (.cells #[.int .u64 0, .int .u32 0, .int .u32 0, .int .u64 0, .int .u32 0, .int .i64 0, .int .i64 0, .int .i64 0, .int .u32 0] 27)) wb.size #[.int .u64 y.seq, .int .u32 y.ep, .int .u32 y.tail, .int .u64 y.lsn, .int .u32 y.last, .int .i64 y.pg, .int .i64 y.un, .int .i64 y.lg, .int .u32 y.mx]
          clear h7
          show Code.wp _ _ _ _ ((w7.alloc (.cells #[.int .u64 0, .int .u32 0, .int .u32 0, .int .u64 0, .int .u32 0, .int .i64 0, .int .i64 0, .int .i64 0, .int .u32 0] 27)).setRow w7.heap.size #[.int .u64 y.seq, .int .u32 y.ep, .int .u32 y.tail, .int .u64 y.lsn, .int .u32 y.last, .int .i64 y.pg, .int .i64 y.un, .int .i64 y.lg, .int .u32 y.mx])
          generalize (w7.alloc (.cells #[.int .u64 0, .int .u32 0, .int .u32 0, .int .u64 0, .int .u32 0, .int .i64 0, .int .i64 0, .int .i64 0, .int .u32 0] 27)).setRow w7.heap.size #[.int .u64 y.seq, .int .u32 y.ep, .int .u32 y.tail, .int .u64 y.lsn, .int .u32 y.last, .int .i64 y.pg, .int .i64 y.un, .int .i64 y.lg, .int .u32 y.mx] = w7x at r0 r1 ql qx qy wb ⊢
          generalize w7.heap.size = gy at qy lgyr0 lgyr1 lgyql lgyqx ⊢
          have cx := row_at qx 0 (.int .u64 x.seq) rfl
          have cy := row_at qy 0 (.int .u64 y.seq) rfl
          go_wp2_with (first
            | (refine load_cells_g rfl 27 (.tmp 8) rfl gl rfl 27 #[.int .u64 y.seq, .int .u32 y.ep, .int .u32 y.tail, .int .u64 y.lsn, .int .u32 y.last, .int .i64 y.pg, .int .i64 y.un, .int .i64 y.lg, .int .u32 y.mx] ql 9 Try.underlying27 rfl size27 rfl ?_)
            | (refine load_cells_g rfl 27 (.tmp 13) rfl gy rfl 27 #[.int .u64 y.seq, .int .u32 y.ep, .int .u32 y.tail, .int .u64 y.lsn, .int .u32 y.last, .int .i64 y.pg, .int .i64 y.un, .int .i64 y.lg, .int .u32 y.mx] qy 9 Try.underlying27 rfl size27 rfl ?_)
            | (go_at_call 15; refine (HA.out _).mono ?_; clear HA; rintro ex wf ⟨rfl, hf⟩; have wb := wb.trans (hf.mono wb.size)))
          go_ret
          exact ⟨rfl, wb⟩

set_option maxRecDepth 100000 in
theorem lifted (os : Os) (started : os.Started) (H : Type) (enc : TypeId × Value → H) :
    ReturnsInHanded {} Try.checked os 5 .any (Rows.masterLoadsSpec.pre6 enc Try.prog Try.f5 Rows.masterLoadsRow.domain false) (Rows.masterLoadsSpec.post enc Try.prog Try.f5 false true false false) := by
  refine returnsInHanded_of_change_sized (C := Try.checked) own started (by kernel_rfl) Try.func5
    (ChangeSpec.witness6 (enc := enc) (C := Try.checked) false ⟨#[], #[.agg (bs (zs 256)), .agg (bs (zs 256)), .int .u8 0], []⟩ 8 (by kernel_rfl) (by kernel_rfl) (by kernel_rfl) (by kernel_rfl)) ?_
  intro W base args ds gs before hval0 hW hcnd hsz0 _
  have hval : ∀ (j : Nat) t v, Try.f5.params[j]? = some t → args[j]? = some v → Value.okWide Try.prog W .any base t v := hval0
  have hW' := hW
  obtain ⟨p, q, hA0, hV, rfl, hfz, hnd⟩ := hW
  have hA : DataW.TrodAll enc Try.prog W 0 (fun _ => true) true Try.f5.params.toList args.toList ds p := hA0
  have hsz : (DataW.weightsEach Try.prog (Try.f5.params.toList ++ []) (ds ++ gs)).all (· ≤ reachBytes) = true := hsz0
  rw [Try.params5] at hA hval hsz
  obtain ⟨v0, vs0, d0, ds0, p0, q0, hargs, rfl, rfl, h0, r0⟩ := trodAll_cons hA
  obtain ⟨v1, vs1, d1, ds1, p1, q1, rfl, rfl, rfl, h1, r1⟩ := trodAll_cons r0
  obtain ⟨v2, vs2, d2, ds2, p2, q2, rfl, rfl, rfl, h2, r2⟩ := trodAll_cons r1
  obtain ⟨rfl, rfl, rfl⟩ := trodAll_nil r2
  obtain rfl : args = #[v0, v1, v2] := by cases args; simp_all
  obtain ⟨rfl, rfl⟩ := trodVars_none hV
  simp only [List.append_nil] at hsz
  have hlt : ∀ x ∈ (p0 ++ (p1 ++ (p2 ++ []))), x.block < W.heap.size := fun x hx => hW'.lt x (by simpa using hx)
  have hw0 : (d0.weights Try.prog 29).all (· ≤ reachBytes) = true := List.all_eq_true.2 fun m hm => List.all_eq_true.1 hsz m (by simp [DataW.weightsEach, hm])
  have hw1 : (d1.weights Try.prog 29).all (· ≤ reachBytes) = true := List.all_eq_true.2 fun m hm => List.all_eq_true.1 hsz m (by simp [DataW.weightsEach, hm])
  have hw2 : (d2.weights Try.prog 5).all (· ≤ reachBytes) = true := List.all_eq_true.2 fun m hm => List.all_eq_true.1 hsz m (by simp [DataW.weightsEach, hm])
  have k0 := h0
  have k1 := h1
  have k2 := h2
  obtain ⟨a0, rfl, l0, w0⟩ := open_blockv (hval 0 29 v0 rfl rfl) h0
  obtain ⟨a1, rfl, l1, w1⟩ := open_blockv (hval 1 29 v1 rfl rfl) h1
  obtain ⟨a2, rfl, rfl, rfl, w2⟩ := open_int Try.underlying5 (hval 2 5 v2 rfl rfl) h2
  clear hA0 hval0
  simp only [List.append_nil] at hW'
  refine (walk W a0 a1 a2 l0 w0 l1 w1 w2).mono fun e W' ⟨he, hg⟩ => ?_
  subst he
  exact ⟨_, rfl, ⟨_, _, _, [], (p0 ++ (p1 ++ ([] ++ []))), [], hW', (trodAll_cons_mk (shut_bool Try.underlying4 _) trodAll_mk0), (trodAll_cons_mk (Below.trod laidOut (by kernel_rfl) (of_decide_eq_true (by kernel_rfl)) k0 hg (fun x hx => hlt x (by simp [hx]))) (trodAll_cons_mk (Below.trod laidOut (by kernel_rfl) (of_decide_eq_true (by kernel_rfl)) k1 hg (fun x hx => hlt x (by simp [hx]))) (trodAll_cons_mk (Below.trod laidOut (by kernel_rfl) (of_decide_eq_true (by kernel_rfl)) k2 hg (fun x hx => (nomatch hx))) trodAll_mk0))), rfl,
    hg.frame _, fun h => by cases h⟩⟩

theorem over : Rows.masterLoadsRow.holds Try.pinned (OpenSpec.ofChange Rows.masterLoadsSpec) :=
  OpenClaim.holds_of_wide 5 Try.f5 rfl rfl rfl rfl rfl rfl rfl ⟨rfl, rfl, rfl, rfl, rfl⟩ rfl rfl rfl rfl rfl (by kernel_rfl) Try.func5 (by kernel_rfl)
    (of_decide_eq_true (by kernel_rfl)) (by unfold Func.isWrapper; first | (rw [if_pos (by decide +kernel)]; kernel_rfl) | (rw [if_neg (by decide +kernel)]; exact ⟨rfl, rfl⟩))
    (fun os started H enc _ => lifted os started H enc)

/-- The statement. -/
theorem proved : Rows.MasterLoadsSaid :=
  over
#print axioms proved
end Go.Proofs.Ytcbjjofckhohjaa.masterLoads
