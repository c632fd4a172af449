/-
  Proved here: the document's Unpack of a block.
-/
import Derived.Test.YtcbjjofckhohjaaMrp
namespace Go.Proofs.Ytcbjjofckhohjaa
open Go.ChangeShapes Go.WideShapes Go.ChangeAt Go.RowKit
set_option linter.unusedVariables false
set_option linter.unusedSimpArgs false
set_option maxRecDepth 20000

theorem rat_at (s : ByteArray) (a n : Nat) (A N q : Int) (hA : A = a) (hN : N = n) (hq : num s a n = q) (hs : s.size ≤ maxLen) (hn : n ≤ 8) (ha : a + n ≤ s.size) (w : World) :
    Calls Try.prog 31 #[.string s, .int .i64 A, .int .i64 N] w fun e w' => e = .returned (.int .u64 q) ∧ w = w' := by
  subst hA hN hq
  have P1 : Hid _ := fun w => rget_any s a n w hs hn ha
  clear hs ha
  go_enter Try.func31, Try.ntmps31
  go_wp2_with (go_at_call 44; refine (P1.out _).mono ?_; clear P1; rintro ex w' ⟨rfl, rfl⟩)
  go_ret
  exact ⟨rfl, rfl⟩
theorem built27five (a b c d e : Int) : (Try.prog.built 27 [(0, .int .u64 a), (1, .int .u32 b), (2, .int .u32 c), (3, .int .u64 d), (4, .int .u32 e)]) = some #[.int .u64 a, .int .u32 b, .int .u32 c, .int .u64 d, .int .u32 e, .int .i64 0, .int .i64 0, .int .i64 0, .int .u32 0] := by kernel_rfl
theorem built25four (a b c d : Int) : (Try.prog.built 25 [(0, .int .i64 a), (1, .int .i64 b), (2, .int .i64 c), (3, .int .u32 d)]) = some #[.int .i64 a, .int .i64 b, .int .i64 c, .int .u32 d] := by kernel_rfl
theorem build_parts {P : Program} {ops : Array Oper} {rest : List Oper} {o : Oper} {a : Act} {w : World} {Q : Exit → Act → World → Prop} (hg : o.guard = none) (t : TypeId) (parts : Array (Nat × Operand)) (ho : o.op = .build t parts)
    (vs : List (Nat × Value)) (hv : parts.toList.map (fun x => (x.1, a.eval x.2)) = vs) (cs : Array Value) (hb : P.built t vs = some cs) (h : wpList P ops Q rest (a.put o.dst (.agg cs)) w) : wpList P ops Q (o :: rest) a w := by
  have e : (parts.map fun (i, x) => (i, a.eval x)).toList = vs := by rw [← hv, Array.toList_map]
  have hw : Region.wanted o (yielded ops a.tmps) = true := by simp [Region.wanted, hg]
  exact BigFrame.wpList_want hw fun _ hK => wp_build t parts ho (by rw [e, hb]; rfl) (hK _ _ (by rw [e, hb]; exact h))
theorem there_of_row {w : World} {g : Nat} {cs : Array Value} {t : TypeId} (h : Row w g cs t) (o n : Nat) (hn : o + n ≤ cs.size) : w.there g o n := fun j hj => by
  refine ⟨?_, row_frozen h _⟩
  rw [cell_of_row w g _ _ _ _ h, Array.getElem?_eq_getElem (by omega)]; rfl

set_option maxHeartbeats 4000000 in
theorem runpack_any (b : List Int) (w : World) (hb : b.length = 256) (hy : Bytes b) :
    Calls Try.prog 11 #[.agg (bs b)] w fun ex w' => ex = .returned (.tuple #[.agg (mcells (gotM b)), .bool (isM b)]) ∧ Below w.heap.size w w' := by
  have hz1 := zero29
  have hz2 := zero56
  have hz3 := zero27
  have hbb : (bs b).size = 256 := by rw [bs_size, hb]
  have HOP : Hid _ := fun w => Sl.ropen_any b hb hy w
  have r0 : Row ((w.alloc (.cells (bs b) 29)).alloc (.cells #[.int .u64 0, .int .u32 0, .int .u32 0, .int .u64 0, .int .u32 0, .int .i64 0, .int .i64 0, .int .i64 0, .int .u32 0] 27)) w.heap.size (bs b) 29 := (Row.new _ _ _).alloc _
  have r1 : Row ((w.alloc (.cells (bs b) 29)).alloc (.cells #[.int .u64 0, .int .u32 0, .int .u32 0, .int .u64 0, .int .u32 0, .int .i64 0, .int .i64 0, .int .i64 0, .int .u32 0] 27)) (w.heap.size + 1) #[.int .u64 0, .int .u32 0, .int .u32 0, .int .u64 0, .int .u32 0, .int .i64 0, .int .i64 0, .int .i64 0, .int .u32 0] 27 := by have := Row.new (w.alloc (.cells (bs b) 29)) #[.int .u64 0, .int .u32 0, .int .u32 0, .int .u64 0, .int .u32 0, .int .i64 0, .int .i64 0, .int .i64 0, .int .u32 0] 27; simpa using this
  have ab : Below w.heap.size w ((w.alloc (.cells (bs b) 29)).alloc (.cells #[.int .u64 0, .int .u32 0, .int .u32 0, .int .u64 0, .int .u32 0, .int .i64 0, .int .i64 0, .int .i64 0, .int .u32 0] 27)) := ((Below.refl _ _).alloc (Nat.le_refl _) _).alloc (by simp) _
  go_enter Try.func11, Try.ntmps11
  go_upto_region 1 with fail
  show Code.wp _ _ _ _ ((w.alloc (.cells (bs b) 29)).alloc (.cells #[.int .u64 0, .int .u32 0, .int .u32 0, .int .u64 0, .int .u32 0, .int .i64 0, .int .i64 0, .int .i64 0, .int .u32 0] 27))
  generalize (w.alloc (.cells (bs b) 29)).alloc (.cells #[.int .u64 0, .int .u32 0, .int .u32 0, .int .u64 0, .int .u32 0, .int .i64 0, .int .i64 0, .int .i64 0, .int .u32 0] 27) = w1 at r0 r1 ab ⊢
  by_cases hwh : whole b = true
  · rw [opened_whole b hwh] at HOP
    have hPl := Sl.payN_length b 4
    obtain ⟨t, HT⟩ : ∃ x, Hid (unT b = x) := ⟨_, rfl⟩
    obtain ⟨PN, HPN⟩ : ∃ x, Hid (Sl.payN b 4 = x) := ⟨_, rfl⟩
    rw [HPN.out] at HOP hPl
    have hTz : (strOfNums PN).size = 224 := by rw [strOfNums_size, hPl]
    have ht : toldM (strOfNums PN) = t := by rw [← HPN.out]; exact HT.out
    have htf : t.Fit := by rw [← ht]; exact toldM_fit _
    have G0 : Hid _ := fun w => rat_at (strOfNums PN) 6 8 6 8 t.seq rfl rfl (by rw [← ht]; rfl) (by rw [hTz]; decide) (by decide) (by rw [hTz]; decide) w
    have G1 : Hid _ := fun w => rat_at (strOfNums PN) 14 4 14 4 t.ep rfl rfl (by rw [← ht]; rfl) (by rw [hTz]; decide) (by decide) (by rw [hTz]; decide) w
    have G2 : Hid _ := fun w => rat_at (strOfNums PN) 18 4 18 4 t.tail rfl rfl (by rw [← ht]; rfl) (by rw [hTz]; decide) (by decide) (by rw [hTz]; decide) w
    have G3 : Hid _ := fun w => rat_at (strOfNums PN) 22 8 22 8 t.lsn rfl rfl (by rw [← ht]; rfl) (by rw [hTz]; decide) (by decide) (by rw [hTz]; decide) w
    have G4 : Hid _ := fun w => rat_at (strOfNums PN) 30 4 30 4 t.last rfl rfl (by rw [← ht]; rfl) (by rw [hTz]; decide) (by decide) (by rw [hTz]; decide) w
    have G5 : Hid _ := fun w => rat_at (strOfNums PN) 34 2 34 2 t.pg rfl rfl (by rw [← ht]; rfl) (by rw [hTz]; decide) (by decide) (by rw [hTz]; decide) w
    have G6 : Hid _ := fun w => rat_at (strOfNums PN) 36 2 36 2 t.un rfl rfl (by rw [← ht]; rfl) (by rw [hTz]; decide) (by decide) (by rw [hTz]; decide) w
    have G7 : Hid _ := fun w => rat_at (strOfNums PN) 38 2 38 2 t.lg rfl rfl (by rw [← ht]; rfl) (by rw [hTz]; decide) (by decide) (by rw [hTz]; decide) w
    have G8 : Hid _ := fun w => rat_at (strOfNums PN) 40 4 40 4 t.mx rfl rfl (by rw [← ht]; rfl) (by rw [hTz]; decide) (by decide) (by rw [hTz]; decide) w
    have e1 : IntKind.u32.wrap t.ep = t.ep := by rw [IntKind.wrap_u32]; have := num4 (strOfNums PN) 14; rw [show num (strOfNums PN) 14 4 = t.ep by rw [← ht]; rfl] at this; omega
    have e2 : IntKind.u32.wrap t.tail = t.tail := by rw [IntKind.wrap_u32]; have := num4 (strOfNums PN) 18; rw [show num (strOfNums PN) 18 4 = t.tail by rw [← ht]; rfl] at this; omega
    have e4 : IntKind.u32.wrap t.last = t.last := by rw [IntKind.wrap_u32]; have := num4 (strOfNums PN) 30; rw [show num (strOfNums PN) 30 4 = t.last by rw [← ht]; rfl] at this; omega
    have e5 : IntKind.i64.wrap t.pg = t.pg := by rw [IntKind.wrap_i64]; have := num2 (strOfNums PN) 34; rw [show num (strOfNums PN) 34 2 = t.pg by rw [← ht]; rfl] at this; omega
    have e6 : IntKind.i64.wrap t.un = t.un := by rw [IntKind.wrap_i64]; have := num2 (strOfNums PN) 36; rw [show num (strOfNums PN) 36 2 = t.un by rw [← ht]; rfl] at this; omega
    have e7 : IntKind.i64.wrap t.lg = t.lg := by rw [IntKind.wrap_i64]; have := num2 (strOfNums PN) 38; rw [show num (strOfNums PN) 38 2 = t.lg by rw [← ht]; rfl] at this; omega
    have e8 : IntKind.u32.wrap t.mx = t.mx := by rw [IntKind.wrap_u32]; have := num4 (strOfNums PN) 40; rw [show num (strOfNums PN) 40 4 = t.mx by rw [← ht]; rfl] at this; omega
    have HPK : Hid _ := fun w => rpack_any t htf w
    have hVl := packV_length t
    have heq := equal29 (packV t) b hVl hb
    have HIB : Hid (isM b = (mayM t && decide (packV t = b))) := by
      show _ = _
      unfold isM
      rw [hwh, HT.out]; rfl
    have HRES : Hid (gotM b = if isM b then t else zm) := by
      show _ = _
      unfold gotM
      rw [HT.out]
    obtain ⟨V, HV⟩ : ∃ x, Hid (packV t = x) := ⟨_, rfl⟩
    rw [HV.out] at HPK hVl heq HIB
    have hVb : (bs V).size = 256 := by rw [bs_size, hVl]
    have HVL : Hid (V.length = 256) := hVl
    have HPL : Hid (PN.length = 224) := hPl
    clear hb hVl hPl ht htf hTz
    go_upto_region 2 with (first
      | (refine load_row rfl 29 (.tmp 1) rfl w.heap.size rfl 29 (bs b) r0 256 5 Try.underlying29 size29 hbb ?_)
      | (go_at_call 30; refine (HOP.out _).mono ?_; clear HOP; rintro ex w2 ⟨rfl, h2⟩
         have q2 : Row (w2.alloc (.cells (bs (zs 224)) 56)) w2.heap.size (bs (zs 224)) 56 := Row.new _ _ _)
      | (refine store_row rfl 56 (.tmp 5) (.tmp 15) rfl w2.heap.size PN rfl rfl 56 _ q2 224 size56 (by rw [bs_size, zs_length]) HPL.out ?_))
    have r0 := r0.below h2 r0.lt
    have r1 := r1.below h2 r1.lt
    have l2 := r1.lt
    have ab := ab.trans (h2.mono ab.size)
    have r0 := (r0.alloc (.cells (bs (zs 224)) 56)).other (g := w2.heap.size) (by omega) (bs PN)
    have r1 := (r1.alloc (.cells (bs (zs 224)) 56)).other (g := w2.heap.size) (by omega) (bs PN)
    have q2 := q2.set (bs PN)
    have ab := below_setRow (ab.alloc ab.size (.cells (bs (zs 224)) 56)) ab.size (bs PN)
    clear h2
    generalize (w2.alloc (.cells (bs (zs 224)) 56)).setRow w2.heap.size (bs PN) = w3 at r0 r1 q2 ab ⊢
    generalize w2.heap.size = g2 at q2 l2 ⊢
    have cc := str_row q2 224 224 HPL.out
    go_upto_region 5 with fail
    clear cc
    have q4 : Row (w3.alloc (.cells #[.int .u64 0, .int .u32 0, .int .u32 0, .int .u64 0, .int .u32 0, .int .i64 0, .int .i64 0, .int .i64 0, .int .u32 0] 27)) w3.heap.size #[.int .u64 0, .int .u32 0, .int .u32 0, .int .u64 0, .int .u32 0, .int .i64 0, .int .i64 0, .int .i64 0, .int .u32 0] 27 := Row.new _ _ _
    go_upto_region 6 with (first
      | (go_at_call 31; first | (refine (G0.out _).mono ?_; clear G0) | (refine (G1.out _).mono ?_; clear G1) | (refine (G2.out _).mono ?_; clear G2) | (refine (G3.out _).mono ?_; clear G3) | (refine (G4.out _).mono ?_; clear G4)
         rintro ex w' ⟨rfl, rfl⟩)
      | (refine build_parts rfl 27 #[(0, .tmp 23), (1, .tmp 26), (2, .tmp 29), (3, .tmp 31), (4, .tmp 34)] rfl [(0, .int .u64 t.seq), (1, .int .u32 t.ep), (2, .int .u32 t.tail), (3, .int .u64 t.lsn), (4, .int .u32 t.last)] rfl _ (built27five t.seq t.ep t.tail t.lsn t.last) ?_)
      | (refine store_cells rfl 27 (.tmp 8) (.tmp 35) rfl w3.heap.size #[.int .u64 t.seq, .int .u32 t.ep, .int .u32 t.tail, .int .u64 t.lsn, .int .u32 t.last, .int .i64 0, .int .i64 0, .int .i64 0, .int .u32 0] rfl rfl 27 _ q4 9 size27 rfl rfl (by simp [Value.oneCell']) ?_))
    have l4 := r1.lt
    have r0 := (r0.alloc (.cells #[.int .u64 0, .int .u32 0, .int .u32 0, .int .u64 0, .int .u32 0, .int .i64 0, .int .i64 0, .int .i64 0, .int .u32 0] 27)).other (g := w3.heap.size) (by omega) #[.int .u64 t.seq, .int .u32 t.ep, .int .u32 t.tail, .int .u64 t.lsn, .int .u32 t.last, .int .i64 0, .int .i64 0, .int .i64 0, .int .u32 0]
    have r1 := (r1.alloc (.cells #[.int .u64 0, .int .u32 0, .int .u32 0, .int .u64 0, .int .u32 0, .int .i64 0, .int .i64 0, .int .i64 0, .int .u32 0] 27)).other (g := w3.heap.size) (by omega) #[.int .u64 t.seq, .int .u32 t.ep, .int .u32 t.tail, .int .u64 t.lsn, .int .u32 t.last, .int .i64 0, .int .i64 0, .int .i64 0, .int .u32 0]
    have q4 := q4.set #[.int .u64 t.seq, .int .u32 t.ep, .int .u32 t.tail, .int .u64 t.lsn, .int .u32 t.last, .int .i64 0, .int .i64 0, .int .i64 0, .int .u32 0]
    have lb := ab.size
    have ab := below_setRow (ab.alloc ab.size (.cells #[.int .u64 0, .int .u32 0, .int .u32 0, .int .u64 0, .int .u32 0, .int .i64 0, .int .i64 0, .int .i64 0, .int .u32 0] 27)) ab.size #[.int .u64 t.seq, .int .u32 t.ep, .int .u32 t.tail, .int .u64 t.lsn, .int .u32 t.last, .int .i64 0, .int .i64 0, .int .i64 0, .int .u32 0]
    clear q2
    show Code.wp _ _ _ _ ((w3.alloc (.cells #[.int .u64 0, .int .u32 0, .int .u32 0, .int .u64 0, .int .u32 0, .int .i64 0, .int .i64 0, .int .i64 0, .int .u32 0] 27)).setRow w3.heap.size #[.int .u64 t.seq, .int .u32 t.ep, .int .u32 t.tail, .int .u64 t.lsn, .int .u32 t.last, .int .i64 0, .int .i64 0, .int .i64 0, .int .u32 0])
    generalize (w3.alloc (.cells #[.int .u64 0, .int .u32 0, .int .u32 0, .int .u64 0, .int .u32 0, .int .i64 0, .int .i64 0, .int .i64 0, .int .u32 0] 27)).setRow w3.heap.size #[.int .u64 t.seq, .int .u32 t.ep, .int .u32 t.tail, .int .u64 t.lsn, .int .u32 t.last, .int .i64 0, .int .i64 0, .int .i64 0, .int .u32 0] = w4 at r0 r1 q4 ab ⊢
    generalize w3.heap.size = g4 at q4 l4 lb ⊢
    have c5 := row_at q4 5 (.int .i64 0) rfl
    have c6 := row_at q4 6 (.int .i64 0) rfl
    have c7 := row_at q4 7 (.int .i64 0) rfl
    have c8 := row_at q4 8 (.int .u32 0) rfl
    have f5 := row_frozen q4 5
    have f6 := row_frozen q4 6
    have f7 := row_frozen q4 7
    have f8 := row_frozen q4 8
    go_upto_region 7 with (first
      | (go_at_call 31; first | (refine (G5.out _).mono ?_; clear G5) | (refine (G6.out _).mono ?_; clear G6) | (refine (G7.out _).mono ?_; clear G7) | (refine (G8.out _).mono ?_; clear G8)
         rintro ex w' ⟨rfl, rfl⟩)
      | (refine build_parts rfl 25 #[(0, .tmp 38), (1, .tmp 41), (2, .tmp 44), (3, .tmp 47)] rfl [(0, .int .i64 t.pg), (1, .int .i64 t.un), (2, .int .i64 t.lg), (3, .int .u32 t.mx)] rfl _ (built25four t.pg t.un t.lg t.mx) ?_)
      | (refine wpList_store_mid rfl 25 (.tmp 49) (.tmp 48) rfl g4 5 #[.int .i64 t.pg, .int .i64 t.un, .int .i64 t.lg, .int .u32 t.mx] rfl rfl (there_of_row q4 5 4 (by decide)) size25 (by simp [Value.oneCell']) ?_))
    have s0 : Row (w4.setCells g4 5 [.int .i64 t.pg, .int .i64 t.un, .int .i64 t.lg, .int .u32 t.mx]) g4 #[.int .u64 t.seq, .int .u32 t.ep, .int .u32 t.tail, .int .u64 t.lsn, .int .u32 t.last, .int .i64 t.pg, .int .i64 t.un, .int .i64 t.lg, .int .u32 t.mx] 27 := row_set (row_set (row_set (row_set q4 5 _) 6 _) 7 _) 8 _
    have x0 : Row (w4.setCells g4 5 [.int .i64 t.pg, .int .i64 t.un, .int .i64 t.lg, .int .u32 t.mx]) w.heap.size (bs b) 29 := row_setCell_other (row_setCell_other (row_setCell_other (row_setCell_other r0 (by omega) 5 _) (by omega) 6 _) (by omega) 7 _) (by omega) 8 _
    have x1 : Row (w4.setCells g4 5 [.int .i64 t.pg, .int .i64 t.un, .int .i64 t.lg, .int .u32 t.mx]) (w.heap.size + 1) #[.int .u64 0, .int .u32 0, .int .u32 0, .int .u64 0, .int .u32 0, .int .i64 0, .int .i64 0, .int .i64 0, .int .u32 0] 27 := row_setCell_other (row_setCell_other (row_setCell_other (row_setCell_other r1 (by omega) 5 _) (by omega) 6 _) (by omega) 7 _) (by omega) 8 _
    have xb : Below w.heap.size w (w4.setCells g4 5 [.int .i64 t.pg, .int .i64 t.un, .int .i64 t.lg, .int .u32 t.mx]) := below_setCell (below_setCell (below_setCell (below_setCell ab lb 5 _) lb 6 _) lb 7 _) lb 8 _
    clear c5 c6 c7 c8 f5 f6 f7 f8 q4 r0 r1 ab e1 e2 e4 e5 e6 e7 e8
    show Code.wp _ _ _ _ (w4.setCells g4 5 [.int .i64 t.pg, .int .i64 t.un, .int .i64 t.lg, .int .u32 t.mx])
    generalize w4.setCells g4 5 [.int .i64 t.pg, .int .i64 t.un, .int .i64 t.lg, .int .u32 t.mx] = w5 at s0 x0 x1 xb ⊢
    have q4 := s0
    have r0 := x0
    have r1 := x1
    have ab := xb
    clear s0 x0 x1 xb
    go_upto_region 8 with (first
      | (refine load_cells rfl 27 (.tmp 8) rfl g4 rfl 27 #[.int .u64 t.seq, .int .u32 t.ep, .int .u32 t.tail, .int .u64 t.lsn, .int .u32 t.last, .int .i64 t.pg, .int .i64 t.un, .int .i64 t.lg, .int .u32 t.mx] q4 9 Try.underlying27 rfl size27 rfl ?_)
      | (go_at_call 9; refine (HPK.out _).mono ?_; clear HPK; rintro ex w9 ⟨rfl, h9⟩
         have q9 : Row (w9.alloc (.cells (bs (zs 256)) 29)) w9.heap.size (bs (zs 256)) 29 := Row.new _ _ _)
      | (refine store_row rfl 29 (.tmp 9) (.tmp 53) rfl w9.heap.size V rfl rfl 29 _ q9 256 size29 (by rw [bs_size, zs_length]) HVL.out ?_))
    have r0 := r0.below h9 r0.lt
    have r1 := r1.below h9 r1.lt
    have qc := q4.below h9 q4.lt
    have l9 := qc.lt
    have l9' := r1.lt
    have ab := ab.trans (h9.mono ab.size)
    have r0 := (r0.alloc (.cells (bs (zs 256)) 29)).other (g := w9.heap.size) (by omega) (bs V)
    have r1 := (r1.alloc (.cells (bs (zs 256)) 29)).other (g := w9.heap.size) (by omega) (bs V)
    have qc := (qc.alloc (.cells (bs (zs 256)) 29)).other (g := w9.heap.size) (by omega) (bs V)
    have q9 := q9.set (bs V)
    have ab := below_setRow (ab.alloc ab.size (.cells (bs (zs 256)) 29)) ab.size (bs V)
    clear h9 q4
    generalize (w9.alloc (.cells (bs (zs 256)) 29)).setRow w9.heap.size (bs V) = wa at r0 r1 qc q9 ab ⊢
    generalize w9.heap.size = g9 at q9 l9 l9' ⊢
    cases hk : mayM t
    · rw [hk] at HIB
      have HI : Hid (isM b = false) := by show _ = _; rw [HIB.out]; rfl
      clear hk HIB heq
      go_wp2_with (first
        | (refine build_none rfl 27 rfl _ built27 ?_)
        | (refine store_cells rfl 27 (.tmp 2) (.tmp 62) rfl (w.heap.size + 1) #[.int .u64 0, .int .u32 0, .int .u32 0, .int .u64 0, .int .u32 0, .int .i64 0, .int .i64 0, .int .i64 0, .int .u32 0] rfl rfl 27 _ r1 9 size27 rfl rfl (by simp [Value.oneCell']) ?_))
      refine bodyPost_ret (v := .tuple #[.agg #[.int .u64 0, .int .u32 0, .int .u32 0, .int .u64 0, .int .u32 0, .int .i64 0, .int .i64 0, .int .i64 0, .int .u32 0], .bool false]) ?_ rfl ⟨by rw [HRES.out, HI.out]; rfl, below_setRow ab (by omega) _⟩
      exact ret_cell2 (fn := Try.f11) rfl _ _ (w.heap.size + 1) 27 #[.int .u64 0, .int .u32 0, .int .u32 0, .int .u64 0, .int .u32 0, .int .i64 0, .int .i64 0, .int .i64 0, .int .u32 0] _ _ rfl rfl (r1.set _) Try.underlying27 rfl size27
    · rw [hk] at HIB
      clear hk
      by_cases hq : V = b
      · have HI : Hid (isM b = true) := by show _ = _; rw [HIB.out, decide_eq_true hq]; rfl
        rw [decide_eq_true hq] at heq
        clear hq HIB
        go_wp2_with (first
          | (refine load_row_g rfl 29 (.tmp 9) rfl g9 rfl 29 (bs V) q9 256 5 Try.underlying29 size29 hVb ?_)
          | (refine load_row_g rfl 29 (.tmp 1) rfl w.heap.size rfl 29 (bs b) r0 256 5 Try.underlying29 size29 hbb ?_)
          | (refine load_cells rfl 27 (.tmp 8) rfl g4 rfl 27 #[.int .u64 t.seq, .int .u32 t.ep, .int .u32 t.tail, .int .u64 t.lsn, .int .u32 t.last, .int .i64 t.pg, .int .i64 t.un, .int .i64 t.lg, .int .u32 t.mx] qc 9 Try.underlying27 rfl size27 rfl ?_)
          | (refine store_cells rfl 27 (.tmp 2) (.tmp 63) rfl (w.heap.size + 1) #[.int .u64 t.seq, .int .u32 t.ep, .int .u32 t.tail, .int .u64 t.lsn, .int .u32 t.last, .int .i64 t.pg, .int .i64 t.un, .int .i64 t.lg, .int .u32 t.mx] rfl rfl 27 _ r1 9 size27 rfl rfl (by simp [Value.oneCell']) ?_))
        refine bodyPost_ret (v := .tuple #[.agg #[.int .u64 t.seq, .int .u32 t.ep, .int .u32 t.tail, .int .u64 t.lsn, .int .u32 t.last, .int .i64 t.pg, .int .i64 t.un, .int .i64 t.lg, .int .u32 t.mx], .bool true]) ?_ rfl ⟨by rw [HRES.out, HI.out]; rfl, below_setRow ab (by omega) _⟩
        exact ret_cell2 (fn := Try.f11) rfl _ _ (w.heap.size + 1) 27 #[.int .u64 t.seq, .int .u32 t.ep, .int .u32 t.tail, .int .u64 t.lsn, .int .u32 t.last, .int .i64 t.pg, .int .i64 t.un, .int .i64 t.lg, .int .u32 t.mx] _ _ rfl rfl (r1.set _) Try.underlying27 rfl size27
      · have HI : Hid (isM b = false) := by show _ = _; rw [HIB.out, decide_eq_false hq]; rfl
        rw [decide_eq_false hq] at heq
        clear hq HIB
        go_wp2_with (first
          | (refine load_row_g rfl 29 (.tmp 9) rfl g9 rfl 29 (bs V) q9 256 5 Try.underlying29 size29 hVb ?_)
          | (refine load_row_g rfl 29 (.tmp 1) rfl w.heap.size rfl 29 (bs b) r0 256 5 Try.underlying29 size29 hbb ?_)
          | (refine build_none rfl 27 rfl _ built27 ?_)
          | (refine store_cells rfl 27 (.tmp 2) (.tmp 62) rfl (w.heap.size + 1) #[.int .u64 0, .int .u32 0, .int .u32 0, .int .u64 0, .int .u32 0, .int .i64 0, .int .i64 0, .int .i64 0, .int .u32 0] rfl rfl 27 _ r1 9 size27 rfl rfl (by simp [Value.oneCell']) ?_))
        refine bodyPost_ret (v := .tuple #[.agg #[.int .u64 0, .int .u32 0, .int .u32 0, .int .u64 0, .int .u32 0, .int .i64 0, .int .i64 0, .int .i64 0, .int .u32 0], .bool false]) ?_ rfl ⟨by rw [HRES.out, HI.out]; rfl, below_setRow ab (by omega) _⟩
        exact ret_cell2 (fn := Try.f11) rfl _ _ (w.heap.size + 1) 27 #[.int .u64 0, .int .u32 0, .int .u32 0, .int .u64 0, .int .u32 0, .int .i64 0, .int .i64 0, .int .i64 0, .int .u32 0] _ _ rfl rfl (r1.set _) Try.underlying27 rfl size27
  · rw [opened_not b hwh] at HOP
    have HI : Hid (isM b = false) := by
      show _ = _
      unfold isM
      cases h : whole b
      · rfl
      · exact absurd h hwh
    clear hwh
    go_upto_region 2 with (first
      | (refine load_row rfl 29 (.tmp 1) rfl w.heap.size rfl 29 (bs b) r0 256 5 Try.underlying29 size29 hbb ?_)
      | (go_at_call 30; refine (HOP.out _).mono ?_; clear HOP; rintro ex w2 ⟨rfl, h2⟩
         have q2 : Row (w2.alloc (.cells (bs (zs 224)) 56)) w2.heap.size (bs (zs 224)) 56 := Row.new _ _ _)
      | (refine store_row rfl 56 (.tmp 5) (.tmp 15) rfl w2.heap.size (zs 224) rfl rfl 56 _ q2 224 size56 (by rw [bs_size, zs_length]) (zs_length _) ?_))
    have r1 := r1.below h2 r1.lt
    have l2 := r1.lt
    have ab := ab.trans (h2.mono ab.size)
    have r1 := (r1.alloc (.cells (bs (zs 224)) 56)).other (g := w2.heap.size) (by omega) (bs (zs 224))
    have ab := below_setRow (ab.alloc ab.size (.cells (bs (zs 224)) 56)) ab.size (bs (zs 224))
    clear h2
    generalize (w2.alloc (.cells (bs (zs 224)) 56)).setRow w2.heap.size (bs (zs 224)) = w3 at r1 ab ⊢
    generalize w2.heap.size = g2 at l2 ⊢
    go_wp2_with (first
      | (refine build_none rfl 27 rfl _ built27 ?_)
      | (refine store_cells rfl 27 (.tmp 2) (.tmp 19) rfl (w.heap.size + 1) #[.int .u64 0, .int .u32 0, .int .u32 0, .int .u64 0, .int .u32 0, .int .i64 0, .int .i64 0, .int .i64 0, .int .u32 0] rfl rfl 27 _ r1 9 size27 rfl rfl (by simp [Value.oneCell']) ?_))
    refine bodyPost_ret (v := .tuple #[.agg #[.int .u64 0, .int .u32 0, .int .u32 0, .int .u64 0, .int .u32 0, .int .i64 0, .int .i64 0, .int .i64 0, .int .u32 0], .bool false]) ?_ rfl ⟨by unfold gotM; rw [HI.out]; rfl, below_setRow ab (by omega) _⟩
    exact ret_cell2 (fn := Try.f11) rfl _ _ (w.heap.size + 1) 27 #[.int .u64 0, .int .u32 0, .int .u32 0, .int .u64 0, .int .u32 0, .int .i64 0, .int .i64 0, .int .i64 0, .int .u32 0] _ _ rfl rfl (r1.set _) Try.underlying27 rfl size27
end Go.Proofs.Ytcbjjofckhohjaa
