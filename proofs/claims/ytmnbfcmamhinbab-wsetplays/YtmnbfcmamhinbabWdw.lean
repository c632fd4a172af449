/-
  Proved here: the trial of a set's deltas, walked.
-/
import Derived.Test.YtmnbfcmamhinbabWdl
import Derived.Test.YtmnbfcmamhinbabWsp
namespace Go.Proofs.Ytmnbfcmamhinbab.Ws
open Go.ChangeShapes Go.WideShapes Go.ChangeAt Go.RowKit
open Go.Deep Go.Maps
set_option linter.unusedVariables false
set_option linter.unusedSimpArgs false

theorem step_cells {P : Program} {ops : Array Oper} {o : Oper} {a : Act} {w : World} {K : Act → World → Prop} {Q : Exit → Act → World → Prop} {E : Prop} (hgd : o.guard = none) (ty : TypeId) (x y : Operand) (ho : o.op = .store ty x y)
    (g : Nat) (cs : Array Value) (hx : a.eval x = .pointer (some ⟨g, 0, none⟩)) (hy : a.eval y = .agg cs)
    (t : TypeId) (old : Array Value) (hg : Row w g old t) (n : Nat) (hi : (P.info? ty).map (·.size) = some n)
    (hold : old.size = n) (hn : cs.size = n) (h1 : cs.all (·.oneCell') = true) (h : K (a.put o.dst undef) (w.setRow g cs)) :
    if Region.wanted o (yielded ops a.tmps) = true then Oper.wp P o a w K Q else E := by
  have hw : Region.wanted o (yielded ops a.tmps) = true := by simp [Region.wanted, hgd]
  rw [if_pos hw]
  exact wp_store_row ty x y ho g cs hx hy t old hg (by rw [hi, hn]) (by rw [hold, hn]) h1 h
def zA : Array Value := (Wo.cells ⟨0, zs 64, 0, ByteArray.empty⟩).toArray
theorem zero44 (w : World) : (zeroValue 44).run Try.prog w = .ok (.agg zA) w := (zero_of_info (P := Try.prog) (t := 44) (v := .agg zA) (n := 67) (by kernel_rfl)).1 w
theorem size44 : (Try.prog.info? 44).map (·.size) = some 67 := by kernel_rfl
theorem zA_size : zA.size = 67 := by decide
theorem Wo.len (o : Wo) (ho : o.b.length = 64) : o.cells.length = 67 := by unfold Wo.cells; simp [ho]
theorem Wo.one (o : Wo) : o.cells.toArray.all (·.oneCell') = true := by
  rw [Array.all_eq_true_iff_forall_mem]
  intro u hu
  have hu : u ∈ o.cells := by simpa using hu
  unfold Wo.cells at hu
  rcases List.mem_cons.1 hu with rfl | hu
  · rfl
  · rcases List.mem_append.1 hu with h | h
    · obtain ⟨x, _, rfl⟩ := List.mem_map.1 h; rfl
    · simp at h; rcases h with rfl | rfl <;> rfl
theorem SAt.grown {w w' : World} {s m : Nat} {L : List (Int × List Int)} (c : SAt w s m L) {row : Option Nat} (g : w.grownBy w' row) (h : ∀ k, row = some k → ∃ cs t, Row w k cs t ∧ t ≠ 71) : SAt w' s m L :=
  c.off (F := fun k => row = some k) (Off.of_grown g (fun k hk => hk)) (by
    rintro k hk q
    obtain ⟨cs, t, hr, ht⟩ := h k q
    rcases hk with rfl | rfl
    · exact Row.un hr c.row ht
    · exact row_nomap hr c.own)
set_option maxHeartbeats 16000000 in
set_option maxRecDepth 20000 in
theorem deltasWalk (w : World) (v : Value) (os : List Wo) (h : Ops w v os) :
    Calls Try.prog 7 #[v] w fun e w' => e = .returned (.bool true) ∧ Below w.heap.size w w' := by
  obtain ⟨oa, cap, rfl, hlen, hcs⟩ := h
  have HCS : Hid _ := hcs
  clear hcs
  obtain ⟨n, HN⟩ : ∃ n, Hid (os.length = n) := ⟨_, rfl⟩
  rw [HN.out] at HCS hlen ⊢
  have hnew := new_any w
  have hz44 := zero44
  have hz42 := zero42
  go_enter Try.func7, Try.ntmps7
  go_wp2_with (go_at_call 15; refine hnew.mono ?_; clear hnew; rintro e w1 ⟨s, rfl, hs, m, hm, c1, b1⟩)
  have HSM : Hid (w.heap.size ≤ s ∧ w.heap.size ≤ m) := ⟨hs, hm⟩
  clear hs hm
  go_loopw [4, 5, 6] (fun va vb d wr => ∃ (i : Nat) (L : List (Int × List Int)) (at_ : List Int) (bl : List (List Int)), d = .int .i64 i ∧ i ≤ 30 ∧ i ≤ n ∧ SAt wr s m L ∧ Hid (Came L at_ bl) ∧ OwnU wr w.heap.size va at_ ∧ OwnB wr w.heap.size vb bl ∧ Below w.heap.size w wr) (fun _ _ d _ => 30 - (intOf d).toNat)
  case atStart => exact ⟨0, [], [], [], rfl, by omega, by omega, c1, Came.nil, OwnU.empty _ _, OwnB.empty _ _, b1⟩
  case round =>
    clear c1 b1
    obtain ⟨i, L, at_, bl, rfl, hi30, hin, c1, HC, oU, oB, b1⟩ := hrel
    by_cases hgo : i < n ∧ i < 30
    · obtain ⟨g1, g2⟩ := hgo
      have g1' : (i : Int) < (n : Int) := by omega
      have g2' : (i : Int) < 30 := by omega
      obtain ⟨A, x, rfl, _, HOK', hcell⟩ := HCS.out i g1
      have HO : Hid x.Ok := HOK'
      clear HOK'
      have hcw : ∀ j u, x.cells[j]? = some u → wr.cell? ((A.add (i * 67)).add j) = some u := fun j u hj => cell_keep (hcell j u hj) b1
      have HXL : Hid (x.cells.length = 67) := x.len HO.out.2.1
      have HX1 : Hid (x.cells.toArray.all (·.oneCell') = true) := x.one
      obtain ⟨XL, HXA⟩ : ∃ XL, Hid (x.cells = XL) := ⟨_, rfl⟩
      rw [HXA.out] at hcw HXL HX1
      clear hcell
      have z0 : Row (wr.alloc (.cells zA 44)) wr.heap.size zA 44 := Row.new _ _ _
      obtain ⟨ZA, HZA⟩ : ∃ ZA, Hid (zA = ZA) := ⟨_, rfl⟩
      have HZS : Hid (ZA.size = 67) := by show _ = _; rw [← HZA.out]; exact zA_size
      rw [HZA.out] at z0 hz44
      have ts : Hid (1 = 1) := rfl
      have tl : Hid (1 = 1) := rfl
      go_upto_region 10 with (first
        | (have hh := tl; clear hh tl; refine wpList_load_any rfl 44 (.tmp 34) rfl (A.add (i * 67)) rfl XL _ hcw Try.underlying44 rfl (by rw [size44, HXL.out]) ?_)
        | (have hh := ts; clear hh ts; refine store_cells rfl 44 (.tmp 7) (.tmp 35) rfl wr.heap.size XL.toArray rfl rfl 44 _ z0 67 size44 HZS.out (by rw [List.size_toArray]; exact HXL.out) HX1.out ?_))
      have hb6 : Below wr.heap.size wr ((wr.alloc (.cells ZA 44)).setRow wr.heap.size XL.toArray) := below_setRow ((Below.refl _ _).alloc (Nat.le_refl _) _) (Nat.le_refl _) _
      have rO := z0.set XL.toArray
      have HXT : Hid (x.cells.toArray = XL.toArray) := by show _ = _; rw [HXA.out]
      have c6 := c1.below hb6
      have oU6 := oU.keep hb6
      have oB6 := oB.keep hb6
      have b6 := b1.trans (hb6.mono b1.size)
      clear hcw z0 hb6 c1 oU oB b1
      generalize (wr.alloc (.cells ZA 44)).setRow wr.heap.size XL.toArray = w6 at rO c6 oU6 oB6 b6 ⊢
      generalize wr.heap.size = X7 at rO ⊢
      generalize XL.toArray = OA at rO HXT HX1
      have hrd := read_any c6 x.pg HO.out.1
      have d0 := (op_at rO HXT.out HO.out.2.1).1
      have hMI := nowP_lenD (c6.at_wr x.pg)
      obtain ⟨MI, HMI⟩ : ∃ MI, Hid (nowP (atP L x.pg) = MI) := ⟨_, rfl⟩
      rw [HMI.out] at hrd hMI
      have HML : Hid (MI.length = 64) := hMI
      clear hMI
      have ts : Hid (1 = 1) := rfl
      go_upto_region 11 with (first
        | (go_at_call 18; refine hrd.mono ?_; clear hrd; rintro e w7 ⟨rfl, hb7⟩; have z0 : Row (w7.alloc (.cells (bs (zs 64)) 42)) w7.heap.size (bs (zs 64)) 42 := Row.new _ _ _)
        | (have hh := ts; clear hh ts; refine store_cells rfl 42 (.tmp 8) (.tmp 41) rfl w7.heap.size (bs MI) rfl rfl 42 _ z0 64 size42 (by rw [bs_size, zs_length]) (by rw [bs_size]; exact HML.out) (bs_one MI) ?_))
      have hb8 : Below w6.heap.size w6 ((w7.alloc (.cells (bs (zs 64)) 42)).setRow w7.heap.size (bs MI)) := hb7.trans ((below_setRow ((Below.refl _ _).alloc (Nat.le_refl _) _) (Nat.le_refl _) _ : Below w7.heap.size w7 _).mono hb7.size)
      have c8 := c6.below hb8
      have oU8 := oU6.keep hb8
      have oB8 := oB6.keep hb8
      have b8 := b6.trans (hb8.mono b6.size)
      have rO8 := rO.below hb8 rO.lt
      clear hb7 hb8 z0 c6 oU6 oB6 b6 rO d0
      generalize (w7.alloc (.cells (bs (zs 64)) 42)).setRow w7.heap.size (bs MI) = w8 at c8 oU8 oB8 b8 rO8 ⊢
      generalize w7.heap.size = X8
      obtain ⟨d0, d1, d65, d66⟩ := op_at rO8 HXT.out HO.out.2.1
      have hwr := write_any c8 x HO.out
      have HRI : Hid (L.Pairwise fun p q => p.1 < q.1) := c8.rising
      have HWR : Hid (Wr (atP L x.pg)) := c8.at_wr x.pg
      have hsm := c8.small
      have HLN : Hid (at_.length ≤ 4 ∧ bl.length ≤ 4) := by have h1 := HC.out.size; have h2 := HC.out.len; exact ⟨by omega, by omega⟩
      have hoff : ∀ W (c9 : SAt W s m (wrL L x)) (o9 : Off (two s m) w8 W), OwnU W w.heap.size u4 at_ ∧ OwnB W w.heap.size u5 bl ∧ Below w.heap.size w W ∧ Row W X7 OA 44 := fun W c9 o9 => by
        have nr : ∀ g cs t, Row w8 g cs t → t ≠ 71 → ¬ two s m g := fun g cs t hg ht => by
          rintro (q | q)
          · subst q; exact Row.un hg c8.row ht
          · subst q; exact row_nomap hg c8.own
        exact ⟨oU8.off o9 (fun g cs hg => nr g cs 40 hg (by decide)), oB8.off o9 (fun g cs hg => nr g cs 42 hg (by decide)), b8.trans (o9.below b8.size (by rintro q (rfl | rfl) <;> have := HSM.out <;> omega)), rO8.off o9 (nr X7 OA 44 rO8 (by decide))⟩
      have HOFF : Hid _ := hoff
      clear hoff oU8 oB8 rO8
      have tl : Hid (1 = 1) := rfl
      by_cases hnew : wrE L x = 0 ∧ hasP L x.pg = false
      · have HC2 : Hid (Came (wrL L x) (at_ ++ [x.pg]) (bl ++ [x.b])) := HC.out.new HRI.out HO.out HWR.out hnew.1 hnew.2
        rw [hnew.1] at hwr
        rw [hnew.2]
        clear hnew
        go_upto_region 12 with (first
          | (have hh := tl; clear hh tl; refine wpList_load_any rfl 42 (.tmp 46) rfl ⟨X7, 1, none⟩ rfl (x.b.map (Value.int .u8)) _ d1 Try.underlying42 rfl (by rw [size42, List.length_map, HO.out.2.1]) ?_)
          | (go_at_call 16; refine hwr.mono ?_; clear hwr; rintro e W3 ⟨rfl, c9, o9⟩; obtain ⟨oU9, oB9, b9, r9⟩ := HOFF.out W3 c9 o9))
        clear d0 d1 d65 d66 HOFF o9 c8 b8
        have d0 := (op_at r9 HXT.out HO.out.2.1).1
        have HR : Hid (∀ ty, ∃ v' w', (Builtin.append_ #[56, 56] ty #[u4, .slice (some ⟨W3.heap.size, 0, none⟩) 1 1]).run Try.prog (W3.alloc (.cells #[.int .u16 x.pg] 40)) = .ok v' w' ∧ (OwnU w' w.heap.size v' (at_ ++ [x.pg]) ∧ SAt w' s m (wrL L x) ∧ OwnB w' w.heap.size u5 bl ∧ Below w.heap.size w w' ∧ Row w' X7 OA 44)) := fun ty => by
          have ha : Below W3.heap.size W3 (W3.alloc (.cells #[.int .u16 x.pg] 40)) := (Below.refl _ _).alloc (Nat.le_refl _) _
          have own3 := oU9.keep ha
          have b4 : Below w.heap.size w (W3.alloc (.cells #[.int .u16 x.pg] 40)) := b9.trans (ha.mono b9.size)
          obtain ⟨v', w', h1, h2, h3⟩ := own3.snoc ty W3.heap.size x.pg (Row.new _ _ _) b4.size (by have := HLN.out; omega)
          have nr : ∀ g cs t, Row (W3.alloc (.cells #[.int .u16 x.pg] 40)) g cs t → t ≠ 40 → ¬ u4.ownBlock = some g := fun g cs t hg ht q => by
            obtain ⟨ds, hd⟩ := own3.row g q
            exact Row.un hg hd ht
          have of1 := Off.of_grown (F := fun k => u4.ownBlock = some k) h3 (fun k hk => hk)
          refine ⟨v', w', h1, h2, (c9.below ha).grown h3 (fun k hk => ?_), (oB9.keep ha).off of1 (fun g cs hg => nr g cs 42 hg (by decide)), b4.grown h3 b4.size (fun k hk => own3.lt k hk), (r9.below ha r9.lt).off of1 (nr X7 OA 44 (r9.below ha r9.lt) (by decide))⟩
          obtain ⟨ds, hd⟩ := own3.row k hk
          exact ⟨ds, 40, hd, by decide⟩
        go_upto_region 13 with (at_builtin; refine wpList_copy' rfl (.tmp 58) (.tmp 61) 56 rfl _ _ rfl rfl (fun ty => HR.out ty) ?_; clear HR; rintro v4 w4 ⟨oU10, c10, oB10, b10, r10⟩)
        clear oU9 oB9 b9 r9 c9 d0
        have d1 := (op_at r10 HXT.out HO.out.2.1).2.1
        have HXB : Hid (x.b.length = 64) := HO.out.2.1
        have HR : Hid (∀ ty, ∃ v' w', (Builtin.append_ #[59, 59] ty #[u5, .slice (some ⟨w4.heap.size, 0, none⟩) 1 1]).run Try.prog (w4.alloc (.cells (bs x.b) 42)) = .ok v' w' ∧ (OwnB w' w.heap.size v' (bl ++ [x.b]) ∧ SAt w' s m (wrL L x) ∧ OwnU w' w.heap.size v4 (at_ ++ [x.pg]) ∧ Below w.heap.size w w')) := fun ty => by
          have ha : Below w4.heap.size w4 (w4.alloc (.cells (bs x.b) 42)) := (Below.refl _ _).alloc (Nat.le_refl _) _
          have own3 := oB10.keep ha
          have b4 : Below w.heap.size w (w4.alloc (.cells (bs x.b) 42)) := b10.trans (ha.mono b10.size)
          obtain ⟨v', w', h1, h2, h3⟩ := own3.snoc ty w4.heap.size x.b HXB.out (Row.new _ _ _) b4.size (by have := HLN.out; omega)
          have nr : ∀ g cs t, Row (w4.alloc (.cells (bs x.b) 42)) g cs t → t ≠ 42 → ¬ u5.ownBlock = some g := fun g cs t hg ht q => by
            obtain ⟨ds, hd⟩ := own3.row g q
            exact Row.un hg hd ht
          have of1 := Off.of_grown (F := fun k => u5.ownBlock = some k) h3 (fun k hk => hk)
          refine ⟨v', w', h1, h2, (c10.below ha).grown h3 (fun k hk => ?_), (oU10.keep ha).off of1 (fun g cs hg => nr g cs 40 hg (by decide)), b4.grown h3 b4.size (fun k hk => own3.lt k hk)⟩
          obtain ⟨ds, hd⟩ := own3.row k hk
          exact ⟨ds, 42, hd, by decide⟩
        have tm : Hid (1 = 1) := rfl
        have tn : Hid (1 = 1) := rfl
        go_wp2_with (first
          | (have hh := tm; clear hh tm; refine wpList_load_any rfl 42 (.tmp 64) rfl ⟨X7, 1, none⟩ rfl (x.b.map (Value.int .u8)) _ d1 Try.underlying42 rfl (by rw [size42, List.length_map, HO.out.2.1]) ?_)
          | (have hh := tn; clear hh tn; refine wpList_body_one rfl (.tmp 65) rfl x.b HXB.out rfl ?_)
          | (at_builtin; refine wpList_copy' rfl (.tmp 63) (.tmp 66) 59 rfl _ _ rfl rfl (fun ty => HR.out ty) ?_; clear HR; rintro v5 w5 ⟨oB11, c11, oU11, b11⟩))
        go_roundw
        case rel => exact ⟨i + 1, _, _, _, by go_num, by omega, by omega, c11, HC2.out, oU11, oB11, b11⟩
        case measure => simp [intOf]; omega
      · have HC2 : Hid (Came (wrL L x) at_ bl) := HC.out.old HRI.out HO.out HWR.out hnew
        by_cases hE : wrE L x = 0
        · have hh : hasP L x.pg = true := by cases e : hasP L x.pg with | true => rfl | false => exact absurd ⟨hE, e⟩ hnew
          rw [hE] at hwr
          rw [hh]
          clear hnew hE hh
          go_wp2_with (first
            | (have hh := tl; clear hh tl; refine wpList_load_any rfl 42 (.tmp 46) rfl ⟨X7, 1, none⟩ rfl (x.b.map (Value.int .u8)) _ d1 Try.underlying42 rfl (by rw [size42, List.length_map, HO.out.2.1]) ?_)
            | (go_at_call 16; refine hwr.mono ?_; clear hwr; rintro e W3 ⟨rfl, c9, o9⟩; obtain ⟨oU9, oB9, b9, r9⟩ := HOFF.out W3 c9 o9))
          go_roundw
          case rel => exact ⟨i + 1, _, _, _, by go_num, by omega, by omega, c9, HC2.out, oU9, oB9, b9⟩
          case measure => simp [intOf]; omega
        · obtain ⟨EE, HEE⟩ : ∃ EE, Hid (wrE L x = EE) := ⟨_, rfl⟩
          rw [HEE.out] at hwr hE
          clear hnew
          go_wp2_with (first
            | (have hh := tl; clear hh tl; refine wpList_load_any rfl 42 (.tmp 46) rfl ⟨X7, 1, none⟩ rfl (x.b.map (Value.int .u8)) _ d1 Try.underlying42 rfl (by rw [size42, List.length_map, HO.out.2.1]) ?_)
            | (go_at_call 16; refine hwr.mono ?_; clear hwr; rintro e W3 ⟨rfl, c9, o9⟩; obtain ⟨oU9, oB9, b9, r9⟩ := HOFF.out W3 c9 o9))
          go_roundw
          case rel => exact ⟨i + 1, _, _, _, by go_num, by omega, by omega, c9, HC2.out, oU9, oB9, b9⟩
          case measure => simp [intOf]; omega
    · have hst2 : (¬ (i : Int) < (n : Int)) ∨ ((i : Int) < (n : Int) ∧ ¬ (i : Int) < 30) := by
        by_cases q : (i : Int) < (n : Int)
        · exact Or.inr ⟨q, fun q' => hgo ⟨by omega, by omega⟩⟩
        · exact Or.inl q
      clear hgo
      have hpg := pages_any c1
      have HRI : Hid (L.Pairwise fun p q => p.1 < q.1) := c1.rising
      have hK4 := c1.small
      have HKW : Hid (∀ p ∈ L, Wr p.2 ∧ 0 ≤ p.1 ∧ p.1 ≤ 65535) := c1.wr
      obtain ⟨oaU, capU, rfl, hcU⟩ := oU.form
      obtain ⟨oaB, capB, rfl, hcB⟩ := oB.form
      have HCU : Hid _ := hcU
      have HCB : Hid _ := hcB
      clear hcU hcB oU oB
      have HBL : Hid (bl.length = at_.length) := HC.out.len
      rw [HBL.out]
      have HA : Hid (∀ w, Calls Try.prog 24 #[] w fun e w' => e = .returned (.bool true) ∧ Below w.heap.size w w') := awake_any
      have hb42 := built42z
      rcases hst2 with g1' | ⟨g1', g2'⟩
      all_goals (
      (go_wp2_with (go_at_call 22; refine hpg.mono ?_; clear hpg; rintro e W2 ⟨ga, cap2, cur, rfl, uP2, hb2, hga⟩)
       have HAK : Hid (at_.length = L.length) := HC.out.size.symm
       rw [HAK.out]
       obtain ⟨K, HK⟩ : ∃ K, Hid (L.length = K) := ⟨_, rfl⟩
       obtain ⟨PL, HPL⟩ : ∃ PL, Hid (L.map Prod.fst = PL) := ⟨_, rfl⟩
       have HPK : Hid (PL.length = K) := by show _ = _; rw [← HPL.out, List.length_map, HK.out]
       rw [HK.out] at hK4 HAK ⊢
       rw [HPL.out] at uP2
       have c2 := c1.below hb2
       have b2 := b1.trans (hb2.mono b1.size)
       have HLT : Hid (ga < W2.heap.size ∧ wr.heap.size ≤ W2.heap.size) := ⟨uP2.row.lt, hb2.size⟩
       have HPR : Hid (PL.Pairwise (· < ·)) := by show List.Pairwise _ _; rw [← HPL.out, List.pairwise_map]; exact HRI.out
       have HPW : Hid (∀ p ∈ PL, (Lit.int .u16 p).wf = true ∧ hasP L p = true ∧ p ∈ at_) := fun p hp => by
         rw [← HPL.out] at hp
         have h1 := (hasP_mem L p).2 hp
         obtain ⟨q, hq, rfl⟩ := List.mem_map.1 hp
         exact ⟨WalkArith.wf_u16 (HKW.out q hq).2, h1, (HC.out.has _).1 h1⟩
       have HCU2 : Hid (∀ W, Below W2.heap.size W2 W → ∀ j x, at_[j]? = some x → ∃ g, oaU = some ⟨g, 0, none⟩ ∧ W.cell? ⟨g, j, none⟩ = some (.int .u16 x)) := fun W hW j x hx => by
         obtain ⟨g, h1, h2⟩ := HCU.out j x hx
         exact ⟨g, h1, cell_keep (cell_keep h2 hb2) hW⟩
       have HCB2 : Hid (∀ W, Below W2.heap.size W2 W → ∀ j b, bl[j]? = some b → ∃ g, oaB = some ⟨g, 0, none⟩ ∧ ∀ z u, (b.map (Value.int .u8))[z]? = some u → W.cell? ((⟨g, j * 64, none⟩ : Addr).add z) = some u) := fun W hW j b hb => by
         obtain ⟨g, h1, h2⟩ := HCB.out j b hb
         exact ⟨g, h1, fun z u hz => cell_keep (cell_keep (h2 z u hz) hb2) hW⟩
       clear hb2 c1 b1 hga HCU HCB
       go_loopw [72] (fun d wr => ∃ k : Nat, d = .int .i64 k ∧ k ≤ K ∧ Below W2.heap.size W2 wr) (fun d _ => K - (intOf d).toNat)
       case atStart => exact ⟨0, rfl, by omega, Below.refl _ _⟩
       case round =>
         obtain ⟨k, rfl, hk, hb⟩ := hrel
         by_cases hkK : k < K
         · have hkK' : (k : Int) < (K : Int) := by omega
           obtain ⟨p, hp⟩ : ∃ p, PL[k]? = some p := ⟨_, List.getElem?_eq_getElem (by rw [HPK.out]; exact hkK)⟩
           have hmp := HPW.out p (List.mem_of_getElem? hp)
           have hu := (UAtb uP2 hb HLT.out.1).cell k p hp
           have hrd := read_any (c2.below hb) p hmp.1
           rw [hmp.2.1] at hrd
           have HWY : Hid (Wr (atP L p)) := c2.at_wr p
           have hY := nowP_lenD HWY.out
           have hBB := baseP_len HWY.out
           have HYB : Hid (Bytes (nowP (atP L p))) := fun y hy => HWY.out.2 y (List.mem_of_mem_drop (List.mem_of_mem_take hy))
           obtain ⟨Y, HY⟩ : ∃ Y, Hid (nowP (atP L p) = Y) := ⟨_, rfl⟩
           obtain ⟨BB, HBB⟩ : ∃ BB, Hid (baseP (atP L p) = BB) := ⟨_, rfl⟩
           rw [HY.out] at hrd hY HYB
           rw [HBB.out] at hBB
           have HYL : Hid (Y.length = 64) := hY
           have HBL2 : Hid (BB.length = 64) := hBB
           clear hY hBB
           have ts : Hid (1 = 1) := rfl
           have tb : Hid (1 = 1) := rfl
           go_upto_region 20 with (first
             | (go_at_call 18; refine hrd.mono ?_; clear hrd; rintro e w5 ⟨rfl, hb5⟩; have z0 : Row (w5.alloc (.cells (bs (zs 64)) 42)) w5.heap.size (bs (zs 64)) 42 := Row.new _ _ _; have z1 := z0.set (bs Y); have z2 : Row (((w5.alloc (.cells (bs (zs 64)) 42)).setRow w5.heap.size (bs Y)).alloc (.cells (bs (zs 64)) 42)) (w5.heap.size + 1) (bs (zs 64)) 42 := (by have := Row.new ((w5.alloc (.cells (bs (zs 64)) 42)).setRow w5.heap.size (bs Y)) (bs (zs 64)) 42; simpa [World.setRow] using this))
             | (have hh := ts; clear hh ts; refine store_cells rfl 42 (.tmp 13) (.tmp 81) rfl w5.heap.size (bs Y) rfl rfl 42 _ z0 64 size42 (by rw [bs_size, zs_length]) (by rw [bs_size]; exact HYL.out) (bs_one Y) ?_; have t2 : Hid (2 = 2) := rfl)
             | (have hh := tb; clear hh tb; refine build_parts rfl 42 #[] rfl [] rfl _ hb42 ?_)
             | (have hh := t2; clear hh t2; refine store_cells rfl 42 (.tmp 15) (.tmp 83) rfl (w5.heap.size + 1) (bs (zs 64)) rfl rfl 42 _ z2 64 size42 (by rw [bs_size, zs_length]) (by rw [bs_size, zs_length]) (bs_one _) ?_))
           have hb6 : Below wr.heap.size wr ((((w5.alloc (.cells (bs (zs 64)) 42)).setRow w5.heap.size (bs Y)).alloc (.cells (bs (zs 64)) 42)).setRow (w5.heap.size + 1) (bs (zs 64))) := hb5.trans ((below_setRow ((below_setRow ((Below.refl _ _).alloc (Nat.le_refl _) _) (Nat.le_refl _) _ : Below w5.heap.size w5 ((w5.alloc (.cells (bs (zs 64)) 42)).setRow w5.heap.size (bs Y))).alloc (by simp [World.setRow]) _) (by omega) _ : Below w5.heap.size w5 _).mono hb5.size)
           have r13 : Row ((((w5.alloc (.cells (bs (zs 64)) 42)).setRow w5.heap.size (bs Y)).alloc (.cells (bs (zs 64)) 42)).setRow (w5.heap.size + 1) (bs (zs 64))) w5.heap.size (bs Y) 42 := (z1.alloc _).other (by omega) _
           have r15 := z2.set (bs (zs 64))
           have hb7 := hb.trans (hb6.mono hb.size)
           have HX5 : Hid (W2.heap.size ≤ w5.heap.size) := Nat.le_trans hb.size hb5.size
           clear hb5 hb6 z0 z1 z2 hb hu
           generalize (((w5.alloc (.cells (bs (zs 64)) 42)).setRow w5.heap.size (bs Y)).alloc (.cells (bs (zs 64)) 42)).setRow (w5.heap.size + 1) (bs (zs 64)) = w6 at r13 r15 hb7 ⊢
           generalize w5.heap.size = X13 at r13 r15 HX5 ⊢
           go_wp2
           go_loopw [86] (fun d wr => ∃ j : Nat, d = .int .i64 j ∧ j ≤ K ∧ Below W2.heap.size W2 wr ∧ Row wr X13 (bs Y) 42 ∧ ∃ C : List Int, Row wr (X13 + 1) (bs C) 42 ∧ C.length = 64 ∧ (p ∈ at_.take j → C = BB)) (fun d _ => K - (intOf d).toNat)
           case atStart => exact ⟨0, rfl, by omega, hb7, r13, zs 64, r15, zs_length _, fun q => by simp at q⟩
           case round =>
             clear hb7 r13 r15
             obtain ⟨j, rfl, hj, hb7, r13, C, r15, hCl, hCe⟩ := hrel
             have HCL : Hid (C.length = 64) := hCl
             have HCE : Hid (p ∈ at_.take j → C = BB) := hCe
             clear hCl hCe
             by_cases hjK : j < K
             · have hjK' : (j : Int) < (K : Int) := by omega
               obtain ⟨a, ha⟩ : ∃ a, at_[j]? = some a := ⟨_, List.getElem?_eq_getElem (by rw [HAK.out]; exact hjK)⟩
               obtain ⟨b, hbj⟩ : ∃ b, bl[j]? = some b := ⟨_, List.getElem?_eq_getElem (by rw [HBL.out, HAK.out]; exact hjK)⟩
               obtain ⟨gU, rfl, hca⟩ := HCU2.out wr hb7 j a ha
               obtain ⟨gB, rfl, hcb⟩ := HCB2.out wr hb7 j b hbj
               have HTK : Hid (at_.take (j + 1) = at_.take j ++ [a]) := by show _ = _; rw [List.take_add_one, ha]; rfl
               by_cases hap : a = p
               · subst hap
                 have ebb : b = BB := by rw [← HBB.out]; exact (HC.out.base j a b ha hbj).symm
                 subst ebb
                 have tl : Hid (1 = 1) := rfl
                 clear ha hbj
                 go_wp2_with (first
                   | (have hh := tl; clear hh tl; refine wpList_load_any rfl 42 (.tmp 97) rfl ⟨gB, j * 64, none⟩ rfl (b.map (Value.int .u8)) _ hcb Try.underlying42 rfl (by rw [size42, List.length_map, HBL2.out]) ?_; have t2 : Hid (2 = 2) := rfl)
                   | (have hh := t2; clear hh t2; refine store_cells rfl 42 (.tmp 15) (.tmp 98) rfl (X13 + 1) (bs b) rfl rfl 42 _ r15 64 size42 (by rw [bs_size]; exact HCL.out) (by rw [bs_size]; exact HBL2.out) (bs_one _) ?_))
                 go_roundw
                 case rel => exact ⟨j + 1, by go_num, by omega, below_setRow hb7 (by have := HX5.out; omega) _, r13.other (by omega) _, b, r15.set _, HBL2.out, fun _ => rfl⟩
                 case measure => simp [intOf]; omega
               · clear ha hbj
                 have hne : ¬ a = p := hap
                 go_wp2
                 go_roundw
                 case rel => exact ⟨j + 1, by go_num, by omega, hb7, r13, C, r15, HCL.out, fun q => HCE.out (by rw [HTK.out] at q; rcases List.mem_append.1 q with q | q; exact q; simp at q; exact absurd q.symm hap)⟩
                 case measure => simp [intOf]; omega
             · have hjK' : ¬ (j : Int) < (K : Int) := by omega
               have eC : C = BB := HCE.out (by rw [show j = at_.length by rw [HAK.out]; omega, List.take_length]; exact hmp.2.2)
               subst eC
               have hdl0 := fun W hW => delta_any (c2.below (w' := W) hW) p hmp.1 hmp.2.1
               rw [HBB.out, HY.out] at hdl0
               have HDL : Hid (∀ W, Below W2.heap.size W2 W → Calls Try.prog 20 #[.pointer (some ⟨s, 0, none⟩), .int .u16 p] W fun e w' => e = .returned (.string (delS C Y)) ∧ Below W.heap.size W w') := hdl0
               have HAP : Hid (∀ W, Calls Try.prog 25 #[.agg (bs C), .string (delS C Y)] W fun e w' => e = .returned (.tuple #[.agg (bs Y), .int .i64 0]) ∧ Below W.heap.size W w') := fun W => by
                 have := Dl.apply_any C HCL.out (delS C Y) (delS_size C Y HYL.out) W
                 rw [delS_back C Y HCL.out HYL.out HYB.out] at this
                 exact this
               obtain ⟨DS, HDS⟩ : ∃ DS, Hid (delS C Y = DS) := ⟨_, rfl⟩
               rw [HDS.out] at HDL HAP
               clear hdl0
               go_upto_region 26 with fail
               go_cut [17, 18] from 100 to 107 (fun pp ee wx => ∃ P : Nat, pp = .pointer (some ⟨P, 0, none⟩) ∧ ee = .int .i64 0 ∧ Row wx X13 (bs Y) 42 ∧ Row wx P (bs Y) 42 ∧ Below W2.heap.size W2 wx)
               case first =>
                 refine wp_region_held_drew (S := fun w' => Row w' (X13 + 1) (bs C) 42 ∧ Row w' X13 (bs Y) 42 ∧ Below W2.heap.size W2 w') (by kernel_rfl) ⟨r15, r13, hb7.drew⟩ fun hS => ?_
                 refine wpAnyH_take (i := 0) (v := .agg (bs C)) rfl (by kernel_rfl) (by kernel_rfl) (by kernel_rfl) (fun _ _ _ h => h) (yields_row (by rfl) 42 (.tmp 15) rfl (X13 + 1) rfl 42 (bs C) (fun w h => h.1) 64 5 Try.underlying42 size42 (by rw [bs_size]; exact HCL.out)) hS ?_
                 try simp only [Act.put, List.getElem_toArray, List.getElem_cons_zero, List.getElem_cons_succ, List.setIfInBounds_toArray, List.set_cons_zero, List.set_cons_succ]
                 refine wpAnyH_take (i := 1) (v := .pointer (some ⟨s, 0, none⟩)) rfl (by kernel_rfl) (by kernel_rfl) (by kernel_rfl) (fun _ _ _ h => h) (Or.inl ⟨by rfl, fun w _ => by go_simp⟩) hS ?_
                 try simp only [Act.put, List.getElem_toArray, List.getElem_cons_zero, List.getElem_cons_succ, List.setIfInBounds_toArray, List.set_cons_zero, List.set_cons_succ]
                 refine wpAnyH_take (i := 2) (v := .int .u16 p) rfl (by kernel_rfl) (by kernel_rfl) (by kernel_rfl) (fun _ _ _ h => h) (Or.inl ⟨by rfl, fun w _ => by go_simp⟩) hS ?_
                 try simp only [Act.put, List.getElem_toArray, List.getElem_cons_zero, List.getElem_cons_succ, List.setIfInBounds_toArray, List.set_cons_zero, List.set_cons_succ]
                 refine wpAnyH_ready (rs := [3, 8]) (by kernel_rfl) (by simp) ?_
                 refine AllReadyH.cons rfl (fun K hK => ?_) (AllReadyH.cons rfl (fun K hK => ?_) AllReadyH.nil)
                 · go_simp
                   go_at_call 20
                   refine (HDL.out _ hS.2.2).mono ?_
                   rintro e wk ⟨rfl, b1⟩
                   refine hK.out _ _ ⟨hS.1.below b1 hS.1.lt, hS.2.1.below b1 hS.2.1.lt, hS.2.2.trans (b1.mono hS.2.2.size)⟩ fun hS => ?_
                   try simp only [Act.put, List.getElem_toArray, List.getElem_cons_zero, List.getElem_cons_succ, List.setIfInBounds_toArray, List.set_cons_zero, List.set_cons_succ]
                   refine wpAnyH_ready (rs := [4, 8]) (by kernel_rfl) (by simp) ?_
                   refine AllReadyH.cons rfl (fun K hK => ?_) (AllReadyH.cons rfl (fun K hK => ?_) AllReadyH.nil)
                   · go_simp
                     go_at_call 25
                     refine (HAP.out _).mono ?_
                     rintro e wd ⟨rfl, b2⟩
                     refine hK.out _ _ ⟨hS.1.below b2 hS.1.lt, hS.2.1.below b2 hS.2.1.lt, hS.2.2.trans (b2.mono hS.2.2.size)⟩ fun hS => ?_
                     try simp only [Act.put, List.getElem_toArray, List.getElem_cons_zero, List.getElem_cons_succ, List.setIfInBounds_toArray, List.set_cons_zero, List.set_cons_succ]
                     refine wpAnyH_take (i := 5) (v := .tuple #[.agg (bs Y), .int .i64 0]) rfl (by kernel_rfl) (by kernel_rfl) (by kernel_rfl) (fun _ _ _ h => h) (Or.inl ⟨by rfl, fun w _ => by go_simp⟩) hS ?_
                     try simp only [Act.put, List.getElem_toArray, List.getElem_cons_zero, List.getElem_cons_succ, List.setIfInBounds_toArray, List.set_cons_zero, List.set_cons_succ]
                     refine wpAnyH_take (i := 6) (v := .agg (bs Y)) rfl (by kernel_rfl) (by kernel_rfl) (by kernel_rfl) (fun _ _ _ h => h) (Or.inl ⟨by rfl, fun w _ => by go_simp⟩) hS ?_
                     try simp only [Act.put, List.getElem_toArray, List.getElem_cons_zero, List.getElem_cons_succ, List.setIfInBounds_toArray, List.set_cons_zero, List.set_cons_succ]
                     refine wpAnyH_take (i := 7) (v := .int .i64 0) rfl (by kernel_rfl) (by kernel_rfl) (by kernel_rfl) (fun _ _ _ h => h) (Or.inl ⟨by rfl, fun w _ => by go_simp⟩) hS ?_
                     try simp only [Act.put, List.getElem_toArray, List.getElem_cons_zero, List.getElem_cons_succ, List.setIfInBounds_toArray, List.set_cons_zero, List.set_cons_succ]
                     refine wpAnyH_ready (rs := [8]) (by kernel_rfl) (by simp) ?_
                     refine AllReadyH.cons rfl (fun K hK => ?_) AllReadyH.nil
                     · have hP : Hid (X13 + 2 ≤ wd.heap.size) := (by have := hS.1.lt; show _ ≤ _; omega)
                       go_simp
                       refine hK.out _ _ ⟨Row.alloc (w := wd) hS.1 _, Row.alloc (w := wd) hS.2.1 _, hS.2.2.alloc hS.2.2.size _⟩ fun hS => ?_
                       try simp only [Act.put, List.getElem_toArray, List.getElem_cons_zero, List.getElem_cons_succ, List.setIfInBounds_toArray, List.set_cons_zero, List.set_cons_succ]
                       have rP : Row (wd.alloc (.cells (bs (zs 64)) 42)) wd.heap.size (bs (zs 64)) 42 := (show Row (wd.alloc (.cells (bs (zs 64)) 42)) wd.heap.size (bs (zs 64)) 42 from Row.new _ _ _)
                       refine wpAnyH_ready (rs := [9]) (by kernel_rfl) (by simp) ?_
                       refine AllReadyH.cons rfl (fun K hK => ?_) AllReadyH.nil
                       refine step_cells rfl 42 (.tmp 17) (.tmp 106) rfl (wd.heap.size) (bs Y) rfl rfl 42 _ rP 64 size42 (by rw [bs_size, zs_length]) (by rw [bs_size]; exact HYL.out) (bs_one _) (hK.out _ _ ⟨hS.1.other (by have := hP.out; omega) _, hS.2.1.other (by have := hP.out; omega) _, below_setRow hS.2.2 (by have := hP.out; have := HX5.out; omega) _⟩ fun hS => ?_)
                       try simp only [Act.put, List.getElem_toArray, List.getElem_cons_zero, List.getElem_cons_succ, List.setIfInBounds_toArray, List.set_cons_zero, List.set_cons_succ]
                       refine wpAnyH_take (i := 10) (v := .int .i64 0) rfl (by kernel_rfl) (by kernel_rfl) (by kernel_rfl) (fun _ _ _ h => h) (Or.inl ⟨by rfl, fun w _ => by go_simp⟩) hS ?_
                       try simp only [Act.put, List.getElem_toArray, List.getElem_cons_zero, List.getElem_cons_succ, List.setIfInBounds_toArray, List.set_cons_zero, List.set_cons_succ]
                       refine wpAnyH_done (by kernel_rfl) ?_ _
                       go_wp2
                       go_meet
                       exact ⟨_, rfl, rfl, hS.2.1, rP.set _, hS.2.2⟩
                   · have hP : Hid (X13 + 2 ≤ wk.heap.size) := (by have := hS.1.lt; show _ ≤ _; omega)
                     go_simp
                     refine hK.out _ _ ⟨Row.alloc (w := wk) hS.1 _, Row.alloc (w := wk) hS.2.1 _, hS.2.2.alloc hS.2.2.size _⟩ fun hS => ?_
                     try simp only [Act.put, List.getElem_toArray, List.getElem_cons_zero, List.getElem_cons_succ, List.setIfInBounds_toArray, List.set_cons_zero, List.set_cons_succ]
                     have rP : Row (wk.alloc (.cells (bs (zs 64)) 42)) wk.heap.size (bs (zs 64)) 42 := (show Row (wk.alloc (.cells (bs (zs 64)) 42)) wk.heap.size (bs (zs 64)) 42 from Row.new _ _ _)
                     refine wpAnyH_ready (rs := [4]) (by kernel_rfl) (by simp) ?_
                     refine AllReadyH.cons rfl (fun K hK => ?_) AllReadyH.nil
                     · go_simp
                       go_at_call 25
                       refine (HAP.out _).mono ?_
                       rintro e wd ⟨rfl, b2⟩
                       refine hK.out _ _ ⟨hS.1.below b2 hS.1.lt, hS.2.1.below b2 hS.2.1.lt, hS.2.2.trans (b2.mono hS.2.2.size)⟩ fun hS => ?_
                       try simp only [Act.put, List.getElem_toArray, List.getElem_cons_zero, List.getElem_cons_succ, List.setIfInBounds_toArray, List.set_cons_zero, List.set_cons_succ]
                       have rP := rP.below b2 rP.lt
                       refine wpAnyH_take (i := 5) (v := .tuple #[.agg (bs Y), .int .i64 0]) rfl (by kernel_rfl) (by kernel_rfl) (by kernel_rfl) (fun _ _ _ h => h) (Or.inl ⟨by rfl, fun w _ => by go_simp⟩) hS ?_
                       try simp only [Act.put, List.getElem_toArray, List.getElem_cons_zero, List.getElem_cons_succ, List.setIfInBounds_toArray, List.set_cons_zero, List.set_cons_succ]
                       refine wpAnyH_take (i := 6) (v := .agg (bs Y)) rfl (by kernel_rfl) (by kernel_rfl) (by kernel_rfl) (fun _ _ _ h => h) (Or.inl ⟨by rfl, fun w _ => by go_simp⟩) hS ?_
                       try simp only [Act.put, List.getElem_toArray, List.getElem_cons_zero, List.getElem_cons_succ, List.setIfInBounds_toArray, List.set_cons_zero, List.set_cons_succ]
                       refine wpAnyH_take (i := 7) (v := .int .i64 0) rfl (by kernel_rfl) (by kernel_rfl) (by kernel_rfl) (fun _ _ _ h => h) (Or.inl ⟨by rfl, fun w _ => by go_simp⟩) hS ?_
                       try simp only [Act.put, List.getElem_toArray, List.getElem_cons_zero, List.getElem_cons_succ, List.setIfInBounds_toArray, List.set_cons_zero, List.set_cons_succ]
                       refine wpAnyH_ready (rs := [9]) (by kernel_rfl) (by simp) ?_
                       refine AllReadyH.cons rfl (fun K hK => ?_) AllReadyH.nil
                       refine step_cells rfl 42 (.tmp 17) (.tmp 106) rfl (wk.heap.size) (bs Y) rfl rfl 42 _ rP 64 size42 (by rw [bs_size, zs_length]) (by rw [bs_size]; exact HYL.out) (bs_one _) (hK.out _ _ ⟨hS.1.other (by have := hP.out; omega) _, hS.2.1.other (by have := hP.out; omega) _, below_setRow hS.2.2 (by have := hP.out; have := HX5.out; omega) _⟩ fun hS => ?_)
                       try simp only [Act.put, List.getElem_toArray, List.getElem_cons_zero, List.getElem_cons_succ, List.setIfInBounds_toArray, List.set_cons_zero, List.set_cons_succ]
                       refine wpAnyH_take (i := 10) (v := .int .i64 0) rfl (by kernel_rfl) (by kernel_rfl) (by kernel_rfl) (fun _ _ _ h => h) (Or.inl ⟨by rfl, fun w _ => by go_simp⟩) hS ?_
                       try simp only [Act.put, List.getElem_toArray, List.getElem_cons_zero, List.getElem_cons_succ, List.setIfInBounds_toArray, List.set_cons_zero, List.set_cons_succ]
                       refine wpAnyH_done (by kernel_rfl) ?_ _
                       go_wp2
                       go_meet
                       exact ⟨_, rfl, rfl, hS.2.1, rP.set _, hS.2.2⟩
                 · have hP : Hid (X13 + 2 ≤ wr.heap.size) := (by have := hS.1.lt; show _ ≤ _; simp at this; omega)
                   go_simp
                   refine hK.out _ _ ⟨Row.alloc (w := wr.drew) hS.1 _, Row.alloc (w := wr.drew) hS.2.1 _, hS.2.2.alloc hS.2.2.size _⟩ fun hS => ?_
                   try simp only [Act.put, List.getElem_toArray, List.getElem_cons_zero, List.getElem_cons_succ, List.setIfInBounds_toArray, List.set_cons_zero, List.set_cons_succ]
                   have rP : Row (wr.alloc (.cells (bs (zs 64)) 42)).drew wr.heap.size (bs (zs 64)) 42 := (show Row (wr.alloc (.cells (bs (zs 64)) 42)) wr.heap.size (bs (zs 64)) 42 from Row.new _ _ _)
                   refine wpAnyH_ready (rs := [3]) (by kernel_rfl) (by simp) ?_
                   refine AllReadyH.cons rfl (fun K hK => ?_) AllReadyH.nil
                   · go_simp
                     go_at_call 20
                     refine (HDL.out _ hS.2.2).mono ?_
                     rintro e wk ⟨rfl, b1⟩
                     refine hK.out _ _ ⟨hS.1.below b1 hS.1.lt, hS.2.1.below b1 hS.2.1.lt, hS.2.2.trans (b1.mono hS.2.2.size)⟩ fun hS => ?_
                     try simp only [Act.put, List.getElem_toArray, List.getElem_cons_zero, List.getElem_cons_succ, List.setIfInBounds_toArray, List.set_cons_zero, List.set_cons_succ]
                     have rP := rP.below b1 rP.lt
                     refine wpAnyH_ready (rs := [4]) (by kernel_rfl) (by simp) ?_
                     refine AllReadyH.cons rfl (fun K hK => ?_) AllReadyH.nil
                     · go_simp
                       go_at_call 25
                       refine (HAP.out _).mono ?_
                       rintro e wd ⟨rfl, b2⟩
                       refine hK.out _ _ ⟨hS.1.below b2 hS.1.lt, hS.2.1.below b2 hS.2.1.lt, hS.2.2.trans (b2.mono hS.2.2.size)⟩ fun hS => ?_
                       try simp only [Act.put, List.getElem_toArray, List.getElem_cons_zero, List.getElem_cons_succ, List.setIfInBounds_toArray, List.set_cons_zero, List.set_cons_succ]
                       have rP := rP.below b2 rP.lt
                       refine wpAnyH_take (i := 5) (v := .tuple #[.agg (bs Y), .int .i64 0]) rfl (by kernel_rfl) (by kernel_rfl) (by kernel_rfl) (fun _ _ _ h => h) (Or.inl ⟨by rfl, fun w _ => by go_simp⟩) hS ?_
                       try simp only [Act.put, List.getElem_toArray, List.getElem_cons_zero, List.getElem_cons_succ, List.setIfInBounds_toArray, List.set_cons_zero, List.set_cons_succ]
                       refine wpAnyH_take (i := 6) (v := .agg (bs Y)) rfl (by kernel_rfl) (by kernel_rfl) (by kernel_rfl) (fun _ _ _ h => h) (Or.inl ⟨by rfl, fun w _ => by go_simp⟩) hS ?_
                       try simp only [Act.put, List.getElem_toArray, List.getElem_cons_zero, List.getElem_cons_succ, List.setIfInBounds_toArray, List.set_cons_zero, List.set_cons_succ]
                       refine wpAnyH_take (i := 7) (v := .int .i64 0) rfl (by kernel_rfl) (by kernel_rfl) (by kernel_rfl) (fun _ _ _ h => h) (Or.inl ⟨by rfl, fun w _ => by go_simp⟩) hS ?_
                       try simp only [Act.put, List.getElem_toArray, List.getElem_cons_zero, List.getElem_cons_succ, List.setIfInBounds_toArray, List.set_cons_zero, List.set_cons_succ]
                       refine wpAnyH_ready (rs := [9]) (by kernel_rfl) (by simp) ?_
                       refine AllReadyH.cons rfl (fun K hK => ?_) AllReadyH.nil
                       refine step_cells rfl 42 (.tmp 17) (.tmp 106) rfl (wr.heap.size) (bs Y) rfl rfl 42 _ rP 64 size42 (by rw [bs_size, zs_length]) (by rw [bs_size]; exact HYL.out) (bs_one _) (hK.out _ _ ⟨hS.1.other (by have := hP.out; omega) _, hS.2.1.other (by have := hP.out; omega) _, below_setRow hS.2.2 (by have := hP.out; have := HX5.out; omega) _⟩ fun hS => ?_)
                       try simp only [Act.put, List.getElem_toArray, List.getElem_cons_zero, List.getElem_cons_succ, List.setIfInBounds_toArray, List.set_cons_zero, List.set_cons_succ]
                       refine wpAnyH_take (i := 10) (v := .int .i64 0) rfl (by kernel_rfl) (by kernel_rfl) (by kernel_rfl) (fun _ _ _ h => h) (Or.inl ⟨by rfl, fun w _ => by go_simp⟩) hS ?_
                       try simp only [Act.put, List.getElem_toArray, List.getElem_cons_zero, List.getElem_cons_succ, List.setIfInBounds_toArray, List.set_cons_zero, List.set_cons_succ]
                       refine wpAnyH_done (by kernel_rfl) ?_ _
                       go_wp2
                       go_meet
                       exact ⟨_, rfl, rfl, hS.2.1, rP.set _, hS.2.2⟩
               case rest =>
                 clear r13 r15
                 obtain ⟨P, rfl, rfl, r13, rP, hb8⟩ := hcut
                 have he : ∀ w, (Op.equalIn 10000 42 (.agg (bs Y)) (.agg (bs Y))).run Try.prog w = .ok true w := fun w => by rw [equal_bytes 42 5 64 Try.underlying42 Try.underlying5 size5 cells5' Y Y HYL.out HYL.out w]; simp
                 by_cases hk0 : k = 0
                 · subst hk0
                   have t1 : Hid (1 = 1) := rfl
                   go_wp2_with (first
                     | (have hh := t1; clear hh t1; refine load_row_g rfl 42 (.tmp 17) rfl P rfl 42 _ rP 64 5 Try.underlying42 size42 (by rw [bs_size]; exact HYL.out) ?_; have t2 : Hid (2 = 2) := rfl)
                     | (have hh := t2; clear hh t2; refine load_row_g rfl 42 (.tmp 13) rfl X13 rfl 42 _ r13 64 5 Try.underlying42 size42 (by rw [bs_size]; exact HYL.out) ?_))
                   go_roundw
                   case rel => exact ⟨1, by go_num, by omega, hb8⟩
                   case measure => simp [intOf]; omega
                 · have hk0' : (k : Int) > 0 := by omega
                   obtain ⟨q, hq⟩ : ∃ q, PL[k - 1]? = some q := ⟨_, List.getElem?_eq_getElem (by rw [HPK.out]; omega)⟩
                   have hqp : q < p := by
                     have h1 := List.pairwise_iff_getElem.1 HPR.out (k - 1) k (by rw [HPK.out]; omega) (by rw [HPK.out]; omega) (by omega)
                     have e1 := (List.getElem?_eq_some_iff.1 hq).2
                     have e2 := (List.getElem?_eq_some_iff.1 hp).2
                     rw [e1, e2] at h1; exact h1
                   have hqp' : ¬ q ≥ p := by omega
                   have hu2 := (UAtb uP2 hb8 HLT.out.1).cell (k - 1) q hq
                   obtain ⟨k1, HK1⟩ : ∃ k1, Hid (k - 1 = k1) := ⟨_, rfl⟩
                   rw [HK1.out] at hu2
                   have x1 : IntKind.i64.wrap ((k : Int) - 1) = (k1 : Int) := by rw [IntKind.wrap_i64, ← HK1.out]; omega
                   have x2 : (k1 : Int) < (K : Int) := by rw [← HK1.out]; omega
                   have t1 : Hid (1 = 1) := rfl
                   go_wp2_with (first
                     | (have hh := t1; clear hh t1; refine load_row_g rfl 42 (.tmp 17) rfl P rfl 42 _ rP 64 5 Try.underlying42 size42 (by rw [bs_size]; exact HYL.out) ?_; have t2 : Hid (2 = 2) := rfl)
                     | (have hh := t2; clear hh t2; refine load_row_g rfl 42 (.tmp 13) rfl X13 rfl 42 _ r13 64 5 Try.underlying42 size42 (by rw [bs_size]; exact HYL.out) ?_))
                   go_roundw
                   case rel => exact ⟨k + 1, by go_num, by omega, hb8⟩
                   case measure => simp [intOf]; omega
         · have hkK' : ¬ (k : Int) < (K : Int) := by omega
           have eK : K = k := by omega
           subst eK
           have b3 := b2.trans (hb.mono b2.size)
           have hK4' : (K : Int) ≤ 4 := by omega
           go_wp2_with (go_at_call 24; refine (HA.out _).mono ?_; rintro e w16 ⟨rfl, b16⟩)
           go_ret
           exact ⟨rfl, b3.trans (b16.mono b3.size)⟩))
end Go.Proofs.Ytmnbfcmamhinbab.Ws
