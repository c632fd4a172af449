/-
  Proved here: master.Unpack: the master of which a block is the block, or none.
-/
import Derived.Test.YtcbjjofckhohjaaMpk
namespace Go.Proofs.Ytcbjjofckhohjaa
open Go.ChangeShapes Go.WideShapes Go.ChangeAt Go.RowKit
set_option linter.unusedVariables false
set_option linter.unusedSimpArgs false
set_option maxRecDepth 20000

/-- Whether a block's stamps are all alike. -/
def whole (b : List Int) : Bool := decide (Sl.stampAt b 1 = Sl.stampAt b 0 ∧ Sl.stampAt b 2 = Sl.stampAt b 0 ∧ Sl.stampAt b 3 = Sl.stampAt b 0)
theorem opened_whole (b : List Int) (h : whole b = true) : Sl.opened b = .tuple #[.int .u64 (Sl.stampAt b 0), .agg (bs (Sl.payN b 4)), .bool true] := by
  unfold whole at h; unfold Sl.opened; rw [if_pos (of_decide_eq_true h)]
theorem opened_not (b : List Int) (h : ¬ whole b = true) : Sl.opened b = .tuple #[.int .u64 0, .agg (bs (zs 224)), .bool false] := by
  unfold whole at h; unfold Sl.opened; rw [if_neg (fun q => h (decide_eq_true q))]
/-- What a block would tell, whether it is a master's, and what it tells. -/
def unT (b : List Int) : M := toldM (strOfNums (Sl.payN b 4))
def isM (b : List Int) : Bool := whole b && (mayM (unT b) && decide (packV (unT b) = b))
def gotM (b : List Int) : M := if isM b then unT b else zm
theorem built27 : (Try.prog.built 27 []) = some #[.int .u64 0, .int .u32 0, .int .u32 0, .int .u64 0, .int .u32 0, .int .i64 0, .int .i64 0, .int .i64 0, .int .u32 0] := by kernel_rfl

set_option maxHeartbeats 4000000 in
theorem munpack_any (b : List Int) (w : World) (hb : b.length = 256) (hy : Bytes b) :
    Calls Try.prog 10 #[.agg (bs b)] w fun ex w' => ex = .returned (.tuple #[.agg (mcells (gotM b)), .bool (isM b)]) ∧ Below w.heap.size w w' := by
  have hz1 := zero29
  have hz2 := zero57
  have hz3 := zero27
  have hbb : (bs b).size = 256 := by rw [bs_size, hb]
  have HOP : Hid _ := fun w => Sl.open_any b hb hy w
  have r0 : Row ((w.alloc (.cells (bs b) 29)).alloc (.cells #[.int .u64 0, .int .u32 0, .int .u32 0, .int .u64 0, .int .u32 0, .int .i64 0, .int .i64 0, .int .i64 0, .int .u32 0] 27)) w.heap.size (bs b) 29 := (Row.new _ _ _).alloc _
  have r1 : Row ((w.alloc (.cells (bs b) 29)).alloc (.cells #[.int .u64 0, .int .u32 0, .int .u32 0, .int .u64 0, .int .u32 0, .int .i64 0, .int .i64 0, .int .i64 0, .int .u32 0] 27)) (w.heap.size + 1) #[.int .u64 0, .int .u32 0, .int .u32 0, .int .u64 0, .int .u32 0, .int .i64 0, .int .i64 0, .int .i64 0, .int .u32 0] 27 := by have := Row.new (w.alloc (.cells (bs b) 29)) #[.int .u64 0, .int .u32 0, .int .u32 0, .int .u64 0, .int .u32 0, .int .i64 0, .int .i64 0, .int .i64 0, .int .u32 0] 27; simpa using this
  have ab : Below w.heap.size w ((w.alloc (.cells (bs b) 29)).alloc (.cells #[.int .u64 0, .int .u32 0, .int .u32 0, .int .u64 0, .int .u32 0, .int .i64 0, .int .i64 0, .int .i64 0, .int .u32 0] 27)) := ((Below.refl _ _).alloc (Nat.le_refl _) _).alloc (by simp) _
  go_enter Try.func10, Try.ntmps10
  go_upto_region 1 with fail
  show Code.wp _ _ _ _ ((w.alloc (.cells (bs b) 29)).alloc (.cells #[.int .u64 0, .int .u32 0, .int .u32 0, .int .u64 0, .int .u32 0, .int .i64 0, .int .i64 0, .int .i64 0, .int .u32 0] 27))
  generalize (w.alloc (.cells (bs b) 29)).alloc (.cells #[.int .u64 0, .int .u32 0, .int .u32 0, .int .u64 0, .int .u32 0, .int .i64 0, .int .i64 0, .int .i64 0, .int .u32 0] 27) = w1 at r0 r1 ab ⊢
  by_cases hwh : whole b = true
  · rw [opened_whole b hwh] at HOP
    have hPl := Sl.payN_length b 4
    obtain ⟨t, HT⟩ : ∃ x, Hid (unT b = x) := ⟨_, rfl⟩
    obtain ⟨PN, HPN⟩ : ∃ x, Hid (Sl.payN b 4 = x) := ⟨_, rfl⟩
    rw [HPN.out] at HOP hPl
    have hTz : (strOfNums PN).size = 224 := by rw [strOfNums_size, hPl]
    have HTD : Hid _ := fun w => told_any (strOfNums PN) hTz w
    have ht : toldM (strOfNums PN) = t := by rw [← HPN.out]; exact HT.out
    rw [ht] at HTD
    have htf : t.Fit := by rw [← ht]; exact toldM_fit _
    have HPK : Hid _ := fun w => mpack_any t htf w
    have hVl := packV_length t
    have heq := equal29 (packV t) b hVl hb
    have HIB : Hid (isM b = (mayM t && decide (packV t = b))) := by
      show _ = _
      unfold isM
      rw [hwh, HT.out]; rfl
    have HPE : Hid (packE t = if mayM t then 0 else 1) := rfl
    have HRES : Hid (gotM b = if isM b then t else zm) := by
      show _ = _
      unfold gotM
      rw [HT.out]
    obtain ⟨V, HV⟩ : ∃ x, Hid (packV t = x) := ⟨_, rfl⟩
    rw [HV.out] at HPK hVl heq HIB
    have hVb : (bs V).size = 256 := by rw [bs_size, hVl]
    have HVL : Hid (V.length = 256) := hVl
    have HPL : Hid (PN.length = 224) := hPl
    clear hb hVl hPl ht htf hTz
    go_upto_region 2 with (first
      | (refine load_row rfl 29 (.tmp 1) rfl w.heap.size rfl 29 (bs b) r0 256 5 Try.underlying29 size29 hbb ?_)
      | (go_at_call 28; refine (HOP.out _).mono ?_; clear HOP; rintro ex w2 ⟨rfl, h2⟩
         have q2 : Row (w2.alloc (.cells (bs (zs 224)) 57)) w2.heap.size (bs (zs 224)) 57 := Row.new _ _ _)
      | (refine store_row rfl 57 (.tmp 5) (.tmp 14) rfl w2.heap.size PN rfl rfl 57 _ q2 224 size57 (by rw [bs_size, zs_length]) HPL.out ?_))
    have r0 := r0.below h2 r0.lt
    have r1 := r1.below h2 r1.lt
    have l2 := r1.lt
    have ab := ab.trans (h2.mono ab.size)
    have r0 := (r0.alloc (.cells (bs (zs 224)) 57)).other (g := w2.heap.size) (by omega) (bs PN)
    have r1 := (r1.alloc (.cells (bs (zs 224)) 57)).other (g := w2.heap.size) (by omega) (bs PN)
    have q2 := q2.set (bs PN)
    have ab := below_setRow (ab.alloc ab.size (.cells (bs (zs 224)) 57)) ab.size (bs PN)
    clear h2
    generalize (w2.alloc (.cells (bs (zs 224)) 57)).setRow w2.heap.size (bs PN) = w3 at r0 r1 q2 ab ⊢
    generalize w2.heap.size = g2 at q2 l2 ⊢
    have cc := str_row q2 224 224 HPL.out
    go_upto_region 5 with (first
      | (go_at_call 29; refine (HTD.out _).mono ?_; clear HTD; rintro ex w4 ⟨rfl, h4⟩
         have q4 : Row (w4.alloc (.cells #[.int .u64 0, .int .u32 0, .int .u32 0, .int .u64 0, .int .u32 0, .int .i64 0, .int .i64 0, .int .i64 0, .int .u32 0] 27)) w4.heap.size #[.int .u64 0, .int .u32 0, .int .u32 0, .int .u64 0, .int .u32 0, .int .i64 0, .int .i64 0, .int .i64 0, .int .u32 0] 27 := Row.new _ _ _)
      | (refine store_cells rfl 27 (.tmp 7) (.tmp 21) rfl w4.heap.size #[.int .u64 t.seq, .int .u32 t.ep, .int .u32 t.tail, .int .u64 t.lsn, .int .u32 t.last, .int .i64 t.pg, .int .i64 t.un, .int .i64 t.lg, .int .u32 t.mx] rfl rfl 27 _ q4 9 size27 rfl rfl (by simp [Value.oneCell']) ?_))
    clear cc
    have r0 := r0.below h4 r0.lt
    have r1 := r1.below h4 r1.lt
    have l4 := r1.lt
    have ab := ab.trans (h4.mono ab.size)
    have r0 := (r0.alloc (.cells #[.int .u64 0, .int .u32 0, .int .u32 0, .int .u64 0, .int .u32 0, .int .i64 0, .int .i64 0, .int .i64 0, .int .u32 0] 27)).other (g := w4.heap.size) (by omega) #[.int .u64 t.seq, .int .u32 t.ep, .int .u32 t.tail, .int .u64 t.lsn, .int .u32 t.last, .int .i64 t.pg, .int .i64 t.un, .int .i64 t.lg, .int .u32 t.mx]
    have r1 := (r1.alloc (.cells #[.int .u64 0, .int .u32 0, .int .u32 0, .int .u64 0, .int .u32 0, .int .i64 0, .int .i64 0, .int .i64 0, .int .u32 0] 27)).other (g := w4.heap.size) (by omega) #[.int .u64 t.seq, .int .u32 t.ep, .int .u32 t.tail, .int .u64 t.lsn, .int .u32 t.last, .int .i64 t.pg, .int .i64 t.un, .int .i64 t.lg, .int .u32 t.mx]
    have q4 := q4.set #[.int .u64 t.seq, .int .u32 t.ep, .int .u32 t.tail, .int .u64 t.lsn, .int .u32 t.last, .int .i64 t.pg, .int .i64 t.un, .int .i64 t.lg, .int .u32 t.mx]
    have ab := below_setRow (ab.alloc ab.size (.cells #[.int .u64 0, .int .u32 0, .int .u32 0, .int .u64 0, .int .u32 0, .int .i64 0, .int .i64 0, .int .i64 0, .int .u32 0] 27)) ab.size #[.int .u64 t.seq, .int .u32 t.ep, .int .u32 t.tail, .int .u64 t.lsn, .int .u32 t.last, .int .i64 t.pg, .int .i64 t.un, .int .i64 t.lg, .int .u32 t.mx]
    clear h4 q2
    show Code.wp _ _ _ _ ((w4.alloc (.cells #[.int .u64 0, .int .u32 0, .int .u32 0, .int .u64 0, .int .u32 0, .int .i64 0, .int .i64 0, .int .i64 0, .int .u32 0] 27)).setRow w4.heap.size #[.int .u64 t.seq, .int .u32 t.ep, .int .u32 t.tail, .int .u64 t.lsn, .int .u32 t.last, .int .i64 t.pg, .int .i64 t.un, .int .i64 t.lg, .int .u32 t.mx])
    generalize (w4.alloc (.cells #[.int .u64 0, .int .u32 0, .int .u32 0, .int .u64 0, .int .u32 0, .int .i64 0, .int .i64 0, .int .i64 0, .int .u32 0] 27)).setRow w4.heap.size #[.int .u64 t.seq, .int .u32 t.ep, .int .u32 t.tail, .int .u64 t.lsn, .int .u32 t.last, .int .i64 t.pg, .int .i64 t.un, .int .i64 t.lg, .int .u32 t.mx] = w5 at r0 r1 q4 ab ⊢
    generalize w4.heap.size = g4 at q4 l4 ⊢
    go_upto_region 6 with (first
      | (refine load_cells rfl 27 (.tmp 7) rfl g4 rfl 27 #[.int .u64 t.seq, .int .u32 t.ep, .int .u32 t.tail, .int .u64 t.lsn, .int .u32 t.last, .int .i64 t.pg, .int .i64 t.un, .int .i64 t.lg, .int .u32 t.mx] q4 9 Try.underlying27 rfl size27 rfl ?_)
      | (go_at_call 8; refine (HPK.out _).mono ?_; clear HPK; rintro ex w9 ⟨rfl, h9⟩
         have q9 : Row (w9.alloc (.cells (bs (zs 256)) 29)) w9.heap.size (bs (zs 256)) 29 := Row.new _ _ _)
      | (refine store_row rfl 29 (.tmp 8) (.tmp 25) rfl w9.heap.size V rfl rfl 29 _ q9 256 size29 (by rw [bs_size, zs_length]) HVL.out ?_))
    have r0 := r0.below h9 r0.lt
    have r1 := r1.below h9 r1.lt
    have qc := q4.below h9 q4.lt
    have l9 := qc.lt
    have l9' := r1.lt
    have ab := ab.trans (h9.mono ab.size)
    have r0 := (r0.alloc (.cells (bs (zs 256)) 29)).other (g := w9.heap.size) (by omega) (bs V)
    have r1 := (r1.alloc (.cells (bs (zs 256)) 29)).other (g := w9.heap.size) (by omega) (bs V)
    have qc := (qc.alloc (.cells (bs (zs 256)) 29)).other (g := w9.heap.size) (by omega) (bs V)
    have q9 := q9.set (bs V)
    have ab := below_setRow (ab.alloc ab.size (.cells (bs (zs 256)) 29)) ab.size (bs V)
    clear h9 q4
    generalize (w9.alloc (.cells (bs (zs 256)) 29)).setRow w9.heap.size (bs V) = wa at r0 r1 qc q9 ab ⊢
    generalize w9.heap.size = g9 at q9 l9 l9' ⊢
    generalize packE t = PE at HPE ⊢
    cases hk : mayM t
    · rw [hk] at HPE HIB
      obtain rfl : PE = 1 := HPE.out
      have HI : Hid (isM b = false) := by show _ = _; rw [HIB.out]; rfl
      clear hk HIB heq
      go_wp2_with (first
        | (refine build_none rfl 27 rfl _ built27 ?_)
        | (refine store_cells rfl 27 (.tmp 2) (.tmp 34) rfl (w.heap.size + 1) #[.int .u64 0, .int .u32 0, .int .u32 0, .int .u64 0, .int .u32 0, .int .i64 0, .int .i64 0, .int .i64 0, .int .u32 0] rfl rfl 27 _ r1 9 size27 rfl rfl (by simp [Value.oneCell']) ?_))
      refine bodyPost_ret (v := .tuple #[.agg #[.int .u64 0, .int .u32 0, .int .u32 0, .int .u64 0, .int .u32 0, .int .i64 0, .int .i64 0, .int .i64 0, .int .u32 0], .bool false]) ?_ rfl ⟨by rw [HRES.out, HI.out]; rfl, below_setRow ab (by omega) _⟩
      exact ret_cell2 (fn := Try.f10) rfl _ _ (w.heap.size + 1) 27 #[.int .u64 0, .int .u32 0, .int .u32 0, .int .u64 0, .int .u32 0, .int .i64 0, .int .i64 0, .int .i64 0, .int .u32 0] _ _ rfl rfl (r1.set _) Try.underlying27 rfl size27
    · rw [hk] at HPE HIB
      obtain rfl : PE = 0 := HPE.out
      clear hk
      by_cases hq : V = b
      · have HI : Hid (isM b = true) := by show _ = _; rw [HIB.out, decide_eq_true hq]; rfl
        rw [decide_eq_true hq] at heq
        clear hq HIB
        go_wp2_with (first
          | (refine load_row_g rfl 29 (.tmp 8) rfl g9 rfl 29 (bs V) q9 256 5 Try.underlying29 size29 hVb ?_)
          | (refine load_row_g rfl 29 (.tmp 1) rfl w.heap.size rfl 29 (bs b) r0 256 5 Try.underlying29 size29 hbb ?_)
          | (refine load_cells rfl 27 (.tmp 7) rfl g4 rfl 27 #[.int .u64 t.seq, .int .u32 t.ep, .int .u32 t.tail, .int .u64 t.lsn, .int .u32 t.last, .int .i64 t.pg, .int .i64 t.un, .int .i64 t.lg, .int .u32 t.mx] qc 9 Try.underlying27 rfl size27 rfl ?_)
          | (refine store_cells rfl 27 (.tmp 2) (.tmp 35) rfl (w.heap.size + 1) #[.int .u64 t.seq, .int .u32 t.ep, .int .u32 t.tail, .int .u64 t.lsn, .int .u32 t.last, .int .i64 t.pg, .int .i64 t.un, .int .i64 t.lg, .int .u32 t.mx] rfl rfl 27 _ r1 9 size27 rfl rfl (by simp [Value.oneCell']) ?_))
        refine bodyPost_ret (v := .tuple #[.agg #[.int .u64 t.seq, .int .u32 t.ep, .int .u32 t.tail, .int .u64 t.lsn, .int .u32 t.last, .int .i64 t.pg, .int .i64 t.un, .int .i64 t.lg, .int .u32 t.mx], .bool true]) ?_ rfl ⟨by rw [HRES.out, HI.out]; rfl, below_setRow ab (by omega) _⟩
        exact ret_cell2 (fn := Try.f10) rfl _ _ (w.heap.size + 1) 27 #[.int .u64 t.seq, .int .u32 t.ep, .int .u32 t.tail, .int .u64 t.lsn, .int .u32 t.last, .int .i64 t.pg, .int .i64 t.un, .int .i64 t.lg, .int .u32 t.mx] _ _ rfl rfl (r1.set _) Try.underlying27 rfl size27
      · have HI : Hid (isM b = false) := by show _ = _; rw [HIB.out, decide_eq_false hq]; rfl
        rw [decide_eq_false hq] at heq
        clear hq HIB
        go_wp2_with (first
          | (refine load_row_g rfl 29 (.tmp 8) rfl g9 rfl 29 (bs V) q9 256 5 Try.underlying29 size29 hVb ?_)
          | (refine load_row_g rfl 29 (.tmp 1) rfl w.heap.size rfl 29 (bs b) r0 256 5 Try.underlying29 size29 hbb ?_)
          | (refine build_none rfl 27 rfl _ built27 ?_)
          | (refine store_cells rfl 27 (.tmp 2) (.tmp 34) rfl (w.heap.size + 1) #[.int .u64 0, .int .u32 0, .int .u32 0, .int .u64 0, .int .u32 0, .int .i64 0, .int .i64 0, .int .i64 0, .int .u32 0] rfl rfl 27 _ r1 9 size27 rfl rfl (by simp [Value.oneCell']) ?_))
        refine bodyPost_ret (v := .tuple #[.agg #[.int .u64 0, .int .u32 0, .int .u32 0, .int .u64 0, .int .u32 0, .int .i64 0, .int .i64 0, .int .i64 0, .int .u32 0], .bool false]) ?_ rfl ⟨by rw [HRES.out, HI.out]; rfl, below_setRow ab (by omega) _⟩
        exact ret_cell2 (fn := Try.f10) rfl _ _ (w.heap.size + 1) 27 #[.int .u64 0, .int .u32 0, .int .u32 0, .int .u64 0, .int .u32 0, .int .i64 0, .int .i64 0, .int .i64 0, .int .u32 0] _ _ rfl rfl (r1.set _) Try.underlying27 rfl size27
  · rw [opened_not b hwh] at HOP
    have HI : Hid (isM b = false) := by
      show _ = _
      unfold isM
      cases h : whole b
      · rfl
      · exact absurd h hwh
    clear hwh
    go_upto_region 2 with (first
      | (refine load_row rfl 29 (.tmp 1) rfl w.heap.size rfl 29 (bs b) r0 256 5 Try.underlying29 size29 hbb ?_)
      | (go_at_call 28; refine (HOP.out _).mono ?_; clear HOP; rintro ex w2 ⟨rfl, h2⟩
         have q2 : Row (w2.alloc (.cells (bs (zs 224)) 57)) w2.heap.size (bs (zs 224)) 57 := Row.new _ _ _)
      | (refine store_row rfl 57 (.tmp 5) (.tmp 14) rfl w2.heap.size (zs 224) rfl rfl 57 _ q2 224 size57 (by rw [bs_size, zs_length]) (zs_length _) ?_))
    have r1 := r1.below h2 r1.lt
    have l2 := r1.lt
    have ab := ab.trans (h2.mono ab.size)
    have r1 := (r1.alloc (.cells (bs (zs 224)) 57)).other (g := w2.heap.size) (by omega) (bs (zs 224))
    have ab := below_setRow (ab.alloc ab.size (.cells (bs (zs 224)) 57)) ab.size (bs (zs 224))
    clear h2
    generalize (w2.alloc (.cells (bs (zs 224)) 57)).setRow w2.heap.size (bs (zs 224)) = w3 at r1 ab ⊢
    generalize w2.heap.size = g2 at l2 ⊢
    go_wp2_with (first
      | (refine build_none rfl 27 rfl _ built27 ?_)
      | (refine store_cells rfl 27 (.tmp 2) (.tmp 18) rfl (w.heap.size + 1) #[.int .u64 0, .int .u32 0, .int .u32 0, .int .u64 0, .int .u32 0, .int .i64 0, .int .i64 0, .int .i64 0, .int .u32 0] rfl rfl 27 _ r1 9 size27 rfl rfl (by simp [Value.oneCell']) ?_))
    refine bodyPost_ret (v := .tuple #[.agg #[.int .u64 0, .int .u32 0, .int .u32 0, .int .u64 0, .int .u32 0, .int .i64 0, .int .i64 0, .int .i64 0, .int .u32 0], .bool false]) ?_ rfl ⟨by unfold gotM; rw [HI.out]; rfl, below_setRow ab (by omega) _⟩
    exact ret_cell2 (fn := Try.f10) rfl _ _ (w.heap.size + 1) 27 #[.int .u64 0, .int .u32 0, .int .u32 0, .int .u64 0, .int .u32 0, .int .i64 0, .int .i64 0, .int .i64 0, .int .u32 0] _ _ rfl rfl (r1.set _) Try.underlying27 rfl size27
end Go.Proofs.Ytcbjjofckhohjaa
