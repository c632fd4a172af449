/-
  Proved here: the document's GetData (varveref06). Plain facts: how the document reads an undo page's records (varveref06.GetUndo), and that it comes to the same as the program's reading.
-/
import Derived.Test.YtehogiondcpbcaaJq25
import Derived.Test.YtehogiondcpbcaaJq23
namespace Go.Proofs.Ytehogiondcpbcaa
open Go.ChangeShapes Go.WideShapes Go.ChangeAt Go.RowKit
set_option linter.unusedVariables false
set_option linter.unusedSimpArgs false
set_option maxRecDepth 20000
theorem D.setOne (a b c d : Int) (l : List Int) (k : Nat) (x : Int) : (D.arr ⟨a, b, c, d, l⟩).setIfInBounds (4 + k) (.int .u8 x) = D.arr ⟨a, b, c, d, l.set k x⟩ := by
  rw [Nat.add_comm]
  simp [D.arr, List.set_cons_succ]
theorem built30three (a b c d : Int) : (Try.prog.built 109 [(0, .int .u64 a), (1, .int .u32 b), (2, .agg #[.int .u16 c, .int .u8 d])]) = some (D.arr ⟨a, b, c, d, zs 64⟩) := by kernel_rfl
theorem built26two (c d : Int) : (Try.prog.built 106 [(0, .int .u16 c), (1, .int .u8 d)]) = some #[.int .u16 c, .int .u8 d] := by kernel_rfl
set_option maxHeartbeats 4000000 in
theorem rgetData_any (no : Int) (p : List Int) (w : World) (hno : 0 ≤ no ∧ no ≤ 65535) (hp : p.length = 224) (hb : Bytes p) :
    Calls Try.prog 66 #[.int .u16 no, .agg (bs p)] w fun e w' => e = .returned (.tuple #[.agg (gotD no p).arr, .bool (isD no p)]) ∧ Below w.heap.size w w' := by
  have hz1 := zero109
  have r0 : Row ((w.alloc (.cells (bs p) 34)).alloc (.cells D.zero.arr 109)) w.heap.size (bs p) 34 := (Row.new _ _ _).alloc _
  have r1 : Row ((w.alloc (.cells (bs p) 34)).alloc (.cells D.zero.arr 109)) (w.heap.size + 1) D.zero.arr 109 := by have := Row.new (w.alloc (.cells (bs p) 34)) D.zero.arr 109; simpa using this
  have ab : Below w.heap.size w ((w.alloc (.cells (bs p) 34)).alloc (.cells D.zero.arr 109)) := ((Below.refl _ _).alloc (Nat.le_refl _) _).alloc (by simp) _
  have hpb : (bs p).size = 224 := by rw [bs_size, hp]
  have HL : Hid _ := fun w => rlsn_any p w hp
  have HN2 : Hid _ := num_at p 15 4 _ rfl hp (by decide) (by decide)
  have HN3 : Hid _ := num_at p 19 2 _ rfl hp (by decide) (by decide)
  have f2 := getN_fits (strOfNums p) 15 4
  have f3 := getN_fits (strOfNums p) 19 2
  have HV4' : Hid (getN (strOfNums p) 21 1 = p.getD 21 0) := getN_one p hb 21 (by omega)
  have H21 : Hid ((bs p)[21]? = some (.int .u8 (p.getD 21 0))) := by show _ = _; rw [bs_at]; simp [List.getD, show 21 < p.length by omega]
  have HOK : Hid _ := dOf_ok p hp hb
  have HBY : Hid ((p.drop 22).take 64 = fl 64 (fun i => p.getD (22 + i) 0)) := by
    show _ = _
    apply eq_fl
    · simp; omega
    · intro j hj
      simp only [List.getD]
      rw [List.getElem?_take, if_pos hj, List.getElem?_drop]
  have HD0 : Hid (dOf p = ⟨getN (strOfNums p) 7 8, getN (strOfNums p) 15 4, getN (strOfNums p) 19 2, p.getD 21 0, fl 64 (fun i => p.getD (22 + i) 0)⟩) := by
    show _ = _
    unfold dOf; rw [HV4'.out, HBY.out]
  have HAT : Hid (∀ j, j < 224 → ∀ w' g t, Row w' g (bs p) t → w'.cell? ⟨g, j, none⟩ = some (.int .u8 (p.getD j 0))) := fun j hj w' g t h => row_cell h j (by omega)
  have HPB : Hid (∀ j, 0 ≤ p.getD j 0 ∧ p.getD j 0 ≤ 255) := fun j => hb.at j
  obtain ⟨v1, HV1⟩ : ∃ v, Hid (getN (strOfNums p) 7 8 = v) := ⟨_, rfl⟩
  obtain ⟨v2, HV2⟩ : ∃ v, Hid (getN (strOfNums p) 15 4 = v) := ⟨_, rfl⟩
  obtain ⟨v3, HV3⟩ : ∃ v, Hid (getN (strOfNums p) 19 2 = v) := ⟨_, rfl⟩
  obtain ⟨v4, HV4⟩ : ∃ v, Hid (p.getD 21 0 = v) := ⟨_, rfl⟩
  obtain ⟨f, Hf⟩ : ∃ f, Hid ((fun i => p.getD (22 + i) 0) = f) := ⟨_, rfl⟩
  rw [HV1.out, HV2.out, HV3.out, HV4.out, Hf.out] at HD0
  rw [HV1.out] at HL
  rw [HV2.out] at HN2 f2
  rw [HV3.out] at HN3 f3
  rw [HV4.out] at H21
  have e2 : IntKind.u32.wrap v2 = v2 := by rw [IntKind.wrap_u32]; omega
  have e2' : v2 % 4294967296 = v2 := by omega
  have e3 : IntKind.u16.wrap v3 = v3 := by rw [IntKind.wrap_u16]; omega
  have e3' : v3 % 65536 = v3 := by omega
  have hD1 : ∀ k, (D.arr ⟨v1, v2, v3, v4, upto 64 f k⟩).size = 68 := fun k => D.arr_size _ (upto_length _ _ _)
  have hD0 : (D.arr ⟨v1, v2, v3, v4, zs 64⟩).size = 68 := D.arr_size _ (zs_length _)
  have HPUT : Hid _ := fun w => rputData_any no ⟨v1, v2, v3, v4, fl 64 f⟩ w hno (by rw [← HD0.out]; exact HOK.out)
  have hRl : Hid ((putD no ⟨v1, v2, v3, v4, fl 64 f⟩).length = 224) := putD_length _ _ (fl_length _ _)
  have heq := equal34 (putD no ⟨v1, v2, v3, v4, fl 64 f⟩) p hRl.out hp
  have HRES : Hid (isD no p = decide (putD no ⟨v1, v2, v3, v4, fl 64 f⟩ = p)) := by show _ = _; unfold isD; rw [HD0.out]
  obtain ⟨R, HR⟩ : ∃ R, Hid (putD no ⟨v1, v2, v3, v4, fl 64 f⟩ = R) := ⟨_, rfl⟩
  rw [HR.out] at HPUT heq HRES
  clear hp hb f2 f3
  go_enter Try.func66, Try.ntmps66
  go_upto_region 1 with fail
  generalize (w.alloc (.cells (bs p) 34)).alloc (.cells D.zero.arr 109) = w1 at r0 r1 ab ⊢
  go_cut [6] from 8 to 37 (fun q wx => ∃ gd : Nat, q = .pointer (some ⟨gd, 0, none⟩) ∧ w.heap.size + 1 < gd ∧ Row wx gd (D.arr ⟨v1, v2, v3, v4, zs 64⟩) 109 ∧ Row wx w.heap.size (bs p) 34 ∧ Row wx (w.heap.size + 1) D.zero.arr 109 ∧ Below w.heap.size w wx)
  case first =>
    refine wp_region_held_drew (S := fun w' => Row w' w.heap.size (bs p) 34 ∧ Below w.heap.size w w') (by kernel_rfl) ⟨r0, ab.drew⟩ fun hS => ?_
    have r1 : Row w1.drew (w.heap.size + 1) D.zero.arr 109 := r1
    clear r0 ab
    generalize w1.drew = wd at r1 hS ⊢
    refine tkH (i := 0) (v := .agg (bs p)) rfl (by kernel_rfl) (fun _ _ _ h => h) (yields_row (by rfl) 34 (.tmp 3) rfl w.heap.size rfl 34 (bs p) (fun w h => h.1) 224 5 Try.underlying34 size34 hpb) hS ?_
    try simp only [Act.put, nz0, nz1, nz2, nz3, nz4, nz5]
    refine tkH (i := 2) (v := .agg (bs p)) rfl (by kernel_rfl) (fun _ _ _ h => h) (yields_row (by rfl) 34 (.tmp 3) rfl w.heap.size rfl 34 (bs p) (fun w h => h.1) 224 5 Try.underlying34 size34 hpb) hS ?_
    try simp only [Act.put, nz0, nz1, nz2, nz3, nz4, nz5]
    refine tkH (i := 5) (v := .agg (bs p)) rfl (by kernel_rfl) (fun _ _ _ h => h) (yields_row (by rfl) 34 (.tmp 3) rfl w.heap.size rfl 34 (bs p) (fun w h => h.1) 224 5 Try.underlying34 size34 hpb) hS ?_
    try simp only [Act.put, nz0, nz1, nz2, nz3, nz4, nz5]
    refine tkH (i := 8) (v := .pointer (some ⟨w.heap.size, 21, none⟩)) rfl (by kernel_rfl) (fun _ _ _ h => h) (Or.inl ⟨by rfl, fun w _ => by go_simp⟩) hS ?_
    try simp only [Act.put, nz0, nz1, nz2, nz3, nz4, nz5]
    refine tkH (i := 9) (v := .int .u8 v4) rfl (by kernel_rfl) (fun _ _ _ h => h) (Or.inl ⟨by rfl, fun w h => by have c := row_at h.1 21 _ H21.out; go_simp⟩) hS ?_
    try simp only [Act.put, nz0, nz1, nz2, nz3, nz4, nz5]
    refine wpAnyH_ready (rs := [1, 12]) (by kernel_rfl) (by simp) ?_
    exact (AllReadyH.cons rfl (fun K hK => by
      go_simp
      go_at_call 92
      refine (HL.out _).mono ?_
      rintro e w1_1 ⟨rfl, hcb⟩
      have r1 := r1.below hcb r1.lt
      refine hK.out _ _ (⟨hS.1.below hcb hS.1.lt, hS.2.trans (hcb.mono hS.2.size)⟩) fun hS => ?_
      try simp only [Act.put, nz0, nz1, nz2, nz3, nz4, nz5]
      clear hcb
      refine wpAnyH_ready (rs := [3, 12]) (by kernel_rfl) (by simp) ?_
      exact (AllReadyH.cons rfl (fun K hK => by
        go_simp
        go_at_call 93
        refine (HN2.out _).mono ?_
        rintro e w2_3 ⟨rfl, hcb⟩
        have r1 := r1.below hcb r1.lt
        refine hK.out _ _ (⟨hS.1.below hcb hS.1.lt, hS.2.trans (hcb.mono hS.2.size)⟩) fun hS => ?_
        try simp only [Act.put, nz0, nz1, nz2, nz3, nz4, nz5]
        clear hcb
        refine tkH (i := 4) (v := .int .u32 v2) rfl (by kernel_rfl) (fun _ _ _ h => h) (Or.inl ⟨by rfl, fun w _ => by go_simp⟩) hS ?_
        try simp only [Act.put, nz0, nz1, nz2, nz3, nz4, nz5]
        refine wpAnyH_ready (rs := [6, 12]) (by kernel_rfl) (by simp) ?_
        exact (AllReadyH.cons rfl (fun K hK => by
          go_simp
          go_at_call 93
          refine (HN3.out _).mono ?_
          rintro e w3_6 ⟨rfl, hcb⟩
          have r1 := r1.below hcb r1.lt
          refine hK.out _ _ (⟨hS.1.below hcb hS.1.lt, hS.2.trans (hcb.mono hS.2.size)⟩) fun hS => ?_
          try simp only [Act.put, nz0, nz1, nz2, nz3, nz4, nz5]
          clear hcb
          refine tkH (i := 7) (v := .int .u16 v3) rfl (by kernel_rfl) (fun _ _ _ h => h) (Or.inl ⟨by rfl, fun w _ => by go_simp⟩) hS ?_
          try simp only [Act.put, nz0, nz1, nz2, nz3, nz4, nz5]
          refine tkH (i := 10) (v := .agg #[.int .u16 v3, .int .u8 v4]) rfl (by kernel_rfl) (fun _ _ _ h => h) (yields_build (by rfl) 106 #[(0, .tmp 15), (1, .tmp 17)] rfl [(0, .int .u16 v3), (1, .int .u8 v4)] (by rfl) _ (built26two v3 v4)) hS ?_
          try simp only [Act.put, nz0, nz1, nz2, nz3, nz4, nz5]
          refine tkH (i := 11) (v := .agg (D.arr ⟨v1, v2, v3, v4, zs 64⟩)) rfl (by kernel_rfl) (fun _ _ _ h => h) (yields_build (by rfl) 109 #[(0, .tmp 9), (1, .tmp 12), (2, .tmp 18)] rfl [(0, .int .u64 v1), (1, .int .u32 v2), (2, .agg #[.int .u16 v3, .int .u8 v4])] (by rfl) _ (built30three v1 v2 v3 v4)) hS ?_
          try simp only [Act.put, nz0, nz1, nz2, nz3, nz4, nz5]
          refine wpAnyH_ready (rs := [12]) (by kernel_rfl) (by simp) ?_
          refine AllReadyH.cons rfl (fun K hK => ?_) AllReadyH.nil
          have ngd := hS.2.size
          have ngds0 := hS.1.lt
          have ngdr1 := r1.lt
          have rd : Row (w3_6.alloc (.cells D.zero.arr 109)) w3_6.heap.size D.zero.arr 109 := Row.new _ _ _
          have r1 := r1.alloc (.cells D.zero.arr 109)
          go_simp
          refine hK.out _ _ (⟨hS.1.alloc _, hS.2.alloc hS.2.size _⟩) fun hS => ?_
          try simp only [Act.put, nz0, nz1, nz2, nz3, nz4, nz5]
          generalize w3_6.alloc (.cells D.zero.arr 109) = w4_12 at rd r1 hS ⊢
          generalize w3_6.heap.size = gd at rd ngd ngds0 ngdr1 ⊢
          refine wpAnyH_ready (rs := [13]) (by kernel_rfl) (by simp) ?_
          refine AllReadyH.cons rfl (fun K hK => ?_) AllReadyH.nil
          refine step_cells rfl 109 (.tmp 6) (.tmp 19) rfl gd (D.arr ⟨v1, v2, v3, v4, zs 64⟩) rfl rfl 109 _ rd 68 size109 (D.arr_size _ (zs_length _)) hD0 (D.arr_one _) (hK.out _ _ ⟨hS.1.other (by omega) _, below_setRow hS.2 (by omega) _⟩ fun hS => ?_)
          try simp only [Act.put, nz0, nz1, nz2, nz3, nz4, nz5]
          have r1 := r1.other (g := gd) (by omega) (D.arr ⟨v1, v2, v3, v4, zs 64⟩)
          have rd := rd.set (D.arr ⟨v1, v2, v3, v4, zs 64⟩)
          generalize w4_12.setRow gd (D.arr ⟨v1, v2, v3, v4, zs 64⟩) = w5_13 at r1 rd hS ⊢
          refine wpAnyH_done (by kernel_rfl) ?_ _
          go_wp2
          go_meet
          exact ⟨gd, rfl, by omega, rd, hS.1, r1, hS.2⟩
        ) (AllReadyH.cons rfl (fun K hK => by
          have ngd := hS.2.size
          have ngds0 := hS.1.lt
          have ngdr1 := r1.lt
          have rd : Row (w2_3.alloc (.cells D.zero.arr 109)) w2_3.heap.size D.zero.arr 109 := Row.new _ _ _
          have r1 := r1.alloc (.cells D.zero.arr 109)
          go_simp
          refine hK.out _ _ (⟨hS.1.alloc _, hS.2.alloc hS.2.size _⟩) fun hS => ?_
          try simp only [Act.put, nz0, nz1, nz2, nz3, nz4, nz5]
          generalize w2_3.alloc (.cells D.zero.arr 109) = w3_12 at rd r1 hS ⊢
          generalize w2_3.heap.size = gd at rd ngd ngds0 ngdr1 ⊢
          refine wpAnyH_ready (rs := [6]) (by kernel_rfl) (by simp) ?_
          refine AllReadyH.cons rfl (fun K hK => ?_) AllReadyH.nil
          go_simp
          go_at_call 93
          refine (HN3.out _).mono ?_
          rintro e w4_6 ⟨rfl, hcb⟩
          have r1 := r1.below hcb r1.lt
          have rd := rd.below hcb rd.lt
          refine hK.out _ _ (⟨hS.1.below hcb hS.1.lt, hS.2.trans (hcb.mono hS.2.size)⟩) fun hS => ?_
          try simp only [Act.put, nz0, nz1, nz2, nz3, nz4, nz5]
          clear hcb
          refine tkH (i := 7) (v := .int .u16 v3) rfl (by kernel_rfl) (fun _ _ _ h => h) (Or.inl ⟨by rfl, fun w _ => by go_simp⟩) hS ?_
          try simp only [Act.put, nz0, nz1, nz2, nz3, nz4, nz5]
          refine tkH (i := 10) (v := .agg #[.int .u16 v3, .int .u8 v4]) rfl (by kernel_rfl) (fun _ _ _ h => h) (yields_build (by rfl) 106 #[(0, .tmp 15), (1, .tmp 17)] rfl [(0, .int .u16 v3), (1, .int .u8 v4)] (by rfl) _ (built26two v3 v4)) hS ?_
          try simp only [Act.put, nz0, nz1, nz2, nz3, nz4, nz5]
          refine tkH (i := 11) (v := .agg (D.arr ⟨v1, v2, v3, v4, zs 64⟩)) rfl (by kernel_rfl) (fun _ _ _ h => h) (yields_build (by rfl) 109 #[(0, .tmp 9), (1, .tmp 12), (2, .tmp 18)] rfl [(0, .int .u64 v1), (1, .int .u32 v2), (2, .agg #[.int .u16 v3, .int .u8 v4])] (by rfl) _ (built30three v1 v2 v3 v4)) hS ?_
          try simp only [Act.put, nz0, nz1, nz2, nz3, nz4, nz5]
          refine wpAnyH_ready (rs := [13]) (by kernel_rfl) (by simp) ?_
          refine AllReadyH.cons rfl (fun K hK => ?_) AllReadyH.nil
          refine step_cells rfl 109 (.tmp 6) (.tmp 19) rfl gd (D.arr ⟨v1, v2, v3, v4, zs 64⟩) rfl rfl 109 _ rd 68 size109 (D.arr_size _ (zs_length _)) hD0 (D.arr_one _) (hK.out _ _ ⟨hS.1.other (by omega) _, below_setRow hS.2 (by omega) _⟩ fun hS => ?_)
          try simp only [Act.put, nz0, nz1, nz2, nz3, nz4, nz5]
          have r1 := r1.other (g := gd) (by omega) (D.arr ⟨v1, v2, v3, v4, zs 64⟩)
          have rd := rd.set (D.arr ⟨v1, v2, v3, v4, zs 64⟩)
          generalize w4_6.setRow gd (D.arr ⟨v1, v2, v3, v4, zs 64⟩) = w5_13 at r1 rd hS ⊢
          refine wpAnyH_done (by kernel_rfl) ?_ _
          go_wp2
          go_meet
          exact ⟨gd, rfl, by omega, rd, hS.1, r1, hS.2⟩
        ) AllReadyH.nil))
      ) (AllReadyH.cons rfl (fun K hK => by
        have ngd := hS.2.size
        have ngds0 := hS.1.lt
        have ngdr1 := r1.lt
        have rd : Row (w1_1.alloc (.cells D.zero.arr 109)) w1_1.heap.size D.zero.arr 109 := Row.new _ _ _
        have r1 := r1.alloc (.cells D.zero.arr 109)
        go_simp
        refine hK.out _ _ (⟨hS.1.alloc _, hS.2.alloc hS.2.size _⟩) fun hS => ?_
        try simp only [Act.put, nz0, nz1, nz2, nz3, nz4, nz5]
        generalize w1_1.alloc (.cells D.zero.arr 109) = w2_12 at rd r1 hS ⊢
        generalize w1_1.heap.size = gd at rd ngd ngds0 ngdr1 ⊢
        refine wpAnyH_ready (rs := [3]) (by kernel_rfl) (by simp) ?_
        refine AllReadyH.cons rfl (fun K hK => ?_) AllReadyH.nil
        go_simp
        go_at_call 93
        refine (HN2.out _).mono ?_
        rintro e w3_3 ⟨rfl, hcb⟩
        have r1 := r1.below hcb r1.lt
        have rd := rd.below hcb rd.lt
        refine hK.out _ _ (⟨hS.1.below hcb hS.1.lt, hS.2.trans (hcb.mono hS.2.size)⟩) fun hS => ?_
        try simp only [Act.put, nz0, nz1, nz2, nz3, nz4, nz5]
        clear hcb
        refine tkH (i := 4) (v := .int .u32 v2) rfl (by kernel_rfl) (fun _ _ _ h => h) (Or.inl ⟨by rfl, fun w _ => by go_simp⟩) hS ?_
        try simp only [Act.put, nz0, nz1, nz2, nz3, nz4, nz5]
        refine wpAnyH_ready (rs := [6]) (by kernel_rfl) (by simp) ?_
        refine AllReadyH.cons rfl (fun K hK => ?_) AllReadyH.nil
        go_simp
        go_at_call 93
        refine (HN3.out _).mono ?_
        rintro e w4_6 ⟨rfl, hcb⟩
        have r1 := r1.below hcb r1.lt
        have rd := rd.below hcb rd.lt
        refine hK.out _ _ (⟨hS.1.below hcb hS.1.lt, hS.2.trans (hcb.mono hS.2.size)⟩) fun hS => ?_
        try simp only [Act.put, nz0, nz1, nz2, nz3, nz4, nz5]
        clear hcb
        refine tkH (i := 7) (v := .int .u16 v3) rfl (by kernel_rfl) (fun _ _ _ h => h) (Or.inl ⟨by rfl, fun w _ => by go_simp⟩) hS ?_
        try simp only [Act.put, nz0, nz1, nz2, nz3, nz4, nz5]
        refine tkH (i := 10) (v := .agg #[.int .u16 v3, .int .u8 v4]) rfl (by kernel_rfl) (fun _ _ _ h => h) (yields_build (by rfl) 106 #[(0, .tmp 15), (1, .tmp 17)] rfl [(0, .int .u16 v3), (1, .int .u8 v4)] (by rfl) _ (built26two v3 v4)) hS ?_
        try simp only [Act.put, nz0, nz1, nz2, nz3, nz4, nz5]
        refine tkH (i := 11) (v := .agg (D.arr ⟨v1, v2, v3, v4, zs 64⟩)) rfl (by kernel_rfl) (fun _ _ _ h => h) (yields_build (by rfl) 109 #[(0, .tmp 9), (1, .tmp 12), (2, .tmp 18)] rfl [(0, .int .u64 v1), (1, .int .u32 v2), (2, .agg #[.int .u16 v3, .int .u8 v4])] (by rfl) _ (built30three v1 v2 v3 v4)) hS ?_
        try simp only [Act.put, nz0, nz1, nz2, nz3, nz4, nz5]
        refine wpAnyH_ready (rs := [13]) (by kernel_rfl) (by simp) ?_
        refine AllReadyH.cons rfl (fun K hK => ?_) AllReadyH.nil
        refine step_cells rfl 109 (.tmp 6) (.tmp 19) rfl gd (D.arr ⟨v1, v2, v3, v4, zs 64⟩) rfl rfl 109 _ rd 68 size109 (D.arr_size _ (zs_length _)) hD0 (D.arr_one _) (hK.out _ _ ⟨hS.1.other (by omega) _, below_setRow hS.2 (by omega) _⟩ fun hS => ?_)
        try simp only [Act.put, nz0, nz1, nz2, nz3, nz4, nz5]
        have r1 := r1.other (g := gd) (by omega) (D.arr ⟨v1, v2, v3, v4, zs 64⟩)
        have rd := rd.set (D.arr ⟨v1, v2, v3, v4, zs 64⟩)
        generalize w4_6.setRow gd (D.arr ⟨v1, v2, v3, v4, zs 64⟩) = w5_13 at r1 rd hS ⊢
        refine wpAnyH_done (by kernel_rfl) ?_ _
        go_wp2
        go_meet
        exact ⟨gd, rfl, by omega, rd, hS.1, r1, hS.2⟩
      ) AllReadyH.nil))
    ) (AllReadyH.cons rfl (fun K hK => by
      have ngd := hS.2.size
      have ngds0 := hS.1.lt
      have ngdr1 := r1.lt
      have rd : Row (wd.alloc (.cells D.zero.arr 109)) wd.heap.size D.zero.arr 109 := Row.new _ _ _
      have r1 := r1.alloc (.cells D.zero.arr 109)
      go_simp
      refine hK.out _ _ (⟨hS.1.alloc _, hS.2.alloc hS.2.size _⟩) fun hS => ?_
      try simp only [Act.put, nz0, nz1, nz2, nz3, nz4, nz5]
      generalize wd.alloc (.cells D.zero.arr 109) = w1_12 at rd r1 hS ⊢
      generalize wd.heap.size = gd at rd ngd ngds0 ngdr1 ⊢
      refine wpAnyH_ready (rs := [1]) (by kernel_rfl) (by simp) ?_
      refine AllReadyH.cons rfl (fun K hK => ?_) AllReadyH.nil
      go_simp
      go_at_call 92
      refine (HL.out _).mono ?_
      rintro e w2_1 ⟨rfl, hcb⟩
      have r1 := r1.below hcb r1.lt
      have rd := rd.below hcb rd.lt
      refine hK.out _ _ (⟨hS.1.below hcb hS.1.lt, hS.2.trans (hcb.mono hS.2.size)⟩) fun hS => ?_
      try simp only [Act.put, nz0, nz1, nz2, nz3, nz4, nz5]
      clear hcb
      refine wpAnyH_ready (rs := [3]) (by kernel_rfl) (by simp) ?_
      refine AllReadyH.cons rfl (fun K hK => ?_) AllReadyH.nil
      go_simp
      go_at_call 93
      refine (HN2.out _).mono ?_
      rintro e w3_3 ⟨rfl, hcb⟩
      have r1 := r1.below hcb r1.lt
      have rd := rd.below hcb rd.lt
      refine hK.out _ _ (⟨hS.1.below hcb hS.1.lt, hS.2.trans (hcb.mono hS.2.size)⟩) fun hS => ?_
      try simp only [Act.put, nz0, nz1, nz2, nz3, nz4, nz5]
      clear hcb
      refine tkH (i := 4) (v := .int .u32 v2) rfl (by kernel_rfl) (fun _ _ _ h => h) (Or.inl ⟨by rfl, fun w _ => by go_simp⟩) hS ?_
      try simp only [Act.put, nz0, nz1, nz2, nz3, nz4, nz5]
      refine wpAnyH_ready (rs := [6]) (by kernel_rfl) (by simp) ?_
      refine AllReadyH.cons rfl (fun K hK => ?_) AllReadyH.nil
      go_simp
      go_at_call 93
      refine (HN3.out _).mono ?_
      rintro e w4_6 ⟨rfl, hcb⟩
      have r1 := r1.below hcb r1.lt
      have rd := rd.below hcb rd.lt
      refine hK.out _ _ (⟨hS.1.below hcb hS.1.lt, hS.2.trans (hcb.mono hS.2.size)⟩) fun hS => ?_
      try simp only [Act.put, nz0, nz1, nz2, nz3, nz4, nz5]
      clear hcb
      refine tkH (i := 7) (v := .int .u16 v3) rfl (by kernel_rfl) (fun _ _ _ h => h) (Or.inl ⟨by rfl, fun w _ => by go_simp⟩) hS ?_
      try simp only [Act.put, nz0, nz1, nz2, nz3, nz4, nz5]
      refine tkH (i := 10) (v := .agg #[.int .u16 v3, .int .u8 v4]) rfl (by kernel_rfl) (fun _ _ _ h => h) (yields_build (by rfl) 106 #[(0, .tmp 15), (1, .tmp 17)] rfl [(0, .int .u16 v3), (1, .int .u8 v4)] (by rfl) _ (built26two v3 v4)) hS ?_
      try simp only [Act.put, nz0, nz1, nz2, nz3, nz4, nz5]
      refine tkH (i := 11) (v := .agg (D.arr ⟨v1, v2, v3, v4, zs 64⟩)) rfl (by kernel_rfl) (fun _ _ _ h => h) (yields_build (by rfl) 109 #[(0, .tmp 9), (1, .tmp 12), (2, .tmp 18)] rfl [(0, .int .u64 v1), (1, .int .u32 v2), (2, .agg #[.int .u16 v3, .int .u8 v4])] (by rfl) _ (built30three v1 v2 v3 v4)) hS ?_
      try simp only [Act.put, nz0, nz1, nz2, nz3, nz4, nz5]
      refine wpAnyH_ready (rs := [13]) (by kernel_rfl) (by simp) ?_
      refine AllReadyH.cons rfl (fun K hK => ?_) AllReadyH.nil
      refine step_cells rfl 109 (.tmp 6) (.tmp 19) rfl gd (D.arr ⟨v1, v2, v3, v4, zs 64⟩) rfl rfl 109 _ rd 68 size109 (D.arr_size _ (zs_length _)) hD0 (D.arr_one _) (hK.out _ _ ⟨hS.1.other (by omega) _, below_setRow hS.2 (by omega) _⟩ fun hS => ?_)
      try simp only [Act.put, nz0, nz1, nz2, nz3, nz4, nz5]
      have r1 := r1.other (g := gd) (by omega) (D.arr ⟨v1, v2, v3, v4, zs 64⟩)
      have rd := rd.set (D.arr ⟨v1, v2, v3, v4, zs 64⟩)
      generalize w4_6.setRow gd (D.arr ⟨v1, v2, v3, v4, zs 64⟩) = w5_13 at r1 rd hS ⊢
      refine wpAnyH_done (by kernel_rfl) ?_ _
      go_wp2
      go_meet
      exact ⟨gd, rfl, by omega, rd, hS.1, r1, hS.2⟩
    ) AllReadyH.nil))
  case rest =>
    clear r0 r1 ab HL HN2 HN3
    obtain ⟨gd, rfl, hgd, rd, r0, r1, hB⟩ := hcut
    go_wp2
    go_loopw [7] (fun i wr => ∃ k : Nat, k ≤ 64 ∧ i = .int .i64 k ∧ Row wr gd (D.arr ⟨v1, v2, v3, v4, upto 64 f k⟩) 109 ∧ Row wr w.heap.size (bs p) 34 ∧ Row wr (w.heap.size + 1) D.zero.arr 109 ∧ Below w.heap.size w wr) (fun i _ => 64 - (intOf i).toNat)
    case atStart => exact ⟨0, by omega, rfl, by rw [← upto_zero]; exact rd, r0, r1, hB⟩
    case round =>
      clear r0 r1 rd hB
      obtain ⟨k, hk, rfl, rd, r0, r1, hB⟩ := hrel
      by_cases hkl : k < 64
      · have hx := HAT.out (22 + k) (by omega) wr _ _ r0
        have hxb := HPB.out (22 + k)
        have HFK : Hid (p.getD (22 + k) 0 = f k) := by show _ = _; rw [← Hf.out]
        rw [HFK.out] at hx hxb
        have hcell : wr.cell? ⟨gd, 4 + k, none⟩ = some (.int .u8 ((upto 64 f k).getD k 0)) := row_at rd (4 + k) _ (D.at4 _ k (by rw [upto_length]; exact hkl))
        have hfz := row_frozen rd (4 + k)
        have rd' := row_set rd (4 + k) (.int .u8 (f k))
        rw [D.setOne, upto_step] at rd'
        have r0' := row_setCell_other r0 (show w.heap.size ≠ gd by omega) (4 + k) (.int .u8 (f k))
        have r1' := row_setCell_other r1 (show w.heap.size + 1 ≠ gd by omega) (4 + k) (.int .u8 (f k))
        have hB' := hB.setCell (p := ⟨gd, 4 + k, none⟩) (show w.heap.size ≤ gd by omega) (.int .u8 (f k))
        generalize f k = x at hx hxb rd' r0' r1' hB' ⊢
        generalize (upto 64 f k).getD k 0 = y at hcell
        clear rd HAT HPB HFK heq hpb hD1 hD0 HPUT
        have hkl' : (k : Int) < 64 := by omega
        have ek : IntKind.i64.wrap (22 + (k : Int)) = ((22 + k : Nat) : Int) := by rw [IntKind.wrap_i64]; omega
        go_wp2
        go_roundw
        case rel => exact ⟨k + 1, by omega, by go_num, rd', r0', r1', hB'⟩
        case measure => simp [intOf]; omega
      · obtain rfl : k = 64 := by omega
        have e : upto 64 f 64 = fl 64 f := upto_whole _ _
        rw [e] at rd
        have hDl : (D.arr ⟨v1, v2, v3, v4, fl 64 f⟩).size = 68 := D.arr_size _ (fl_length _ _)
        have hone := D.arr_one ⟨v1, v2, v3, v4, fl 64 f⟩
        obtain ⟨X, HX⟩ : ∃ R, Hid (D.arr ⟨v1, v2, v3, v4, fl 64 f⟩ = R) := ⟨_, rfl⟩
        rw [HX.out] at HPUT hDl rd hone
        clear e hD1 hD0 HAT HPB
        go_upto_region 6 with fail
        refine wp_region_held_drew (S := fun w' => Row w' w.heap.size (bs p) 34 ∧ Row w' gd X 109 ∧ Row w' (w.heap.size + 1) D.zero.arr 109 ∧ Below w.heap.size w w') (by kernel_rfl) ⟨r0, rd, r1, hB.drew⟩ fun hS => ?_
        clear r0 rd r1 hB
        refine tkH (i := 0) (v := .int .u16 no) rfl (by kernel_rfl) (fun _ _ _ h => h) (Or.inl ⟨by rfl, fun w _ => by go_simp⟩) hS ?_
        try simp only [Act.put, nz0, nz1, nz2, nz3, nz4, nz5]
        refine tkH (i := 1) (v := .agg X) rfl (by kernel_rfl) (fun _ _ _ h => h) (yields_cells (by rfl) 109 (.tmp 6) rfl gd rfl 109 X (fun w h => h.2.1) 68 Try.underlying109 rfl size109 hDl) hS ?_
        try simp only [Act.put, nz0, nz1, nz2, nz3, nz4, nz5]
        refine tkH (i := 3) (v := .agg (bs p)) rfl (by kernel_rfl) (fun _ _ _ h => h) (yields_row (by rfl) 34 (.tmp 3) rfl w.heap.size rfl 34 (bs p) (fun w h => h.1) 224 5 Try.underlying34 size34 hpb) hS ?_
        try simp only [Act.put, nz0, nz1, nz2, nz3, nz4, nz5]
        refine wpAnyH_ready (rs := [2]) (by kernel_rfl) (by simp) ?_
        refine AllReadyH.cons rfl (fun K hK => ?_) AllReadyH.nil
        go_simp
        go_at_call 55
        refine (HPUT.out _).mono ?_
        rintro e wc ⟨rfl, hcb⟩
        refine hK.out _ _ (⟨hS.1.below hcb hS.1.lt, hS.2.1.below hcb hS.2.1.lt, hS.2.2.1.below hcb hS.2.2.1.lt, hS.2.2.2.trans (hcb.mono hS.2.2.2.size)⟩) fun hS => ?_
        try simp only [Act.put, nz0, nz1, nz2, nz3, nz4, nz5]
        clear hcb
        refine tkH (i := 4) (v := .bool (!decide (R = p))) rfl (by kernel_rfl) (fun _ _ _ h => h) (yields_neq (by rfl) 34 34 (.tmp 33) (.tmp 34) rfl (bs R) (bs p) rfl rfl Try.eqGuardType34 (decide (R = p)) heq) hS ?_
        try simp only [Act.put, nz0, nz1, nz2, nz3, nz4, nz5]
        refine wpAnyH_done (by kernel_rfl) ?_ _
        clear heq
        by_cases hq : R = p
        · have hi : isD no p = true := by rw [HRES.out, decide_eq_true hq]
          have hgot : Hid ((gotD no p).arr = X) := by show _ = _; unfold gotD; rw [hi, if_pos rfl, HD0.out, HX.out]
          rw [decide_eq_true hq]
          have HI : Hid _ := hi
          clear hq hi
          simp only [Bool.not_true]
          go_wp2_with (first
            | (refine load_cells rfl 109 (.tmp 6) rfl gd rfl 109 X hS.2.1 68 Try.underlying109 rfl size109 hDl ?_)
            | (refine store_cells rfl 109 (.tmp 4) (.tmp 37) rfl (w.heap.size + 1) X rfl rfl 109 _ hS.2.2.1 68 size109 (D.arr_size _ (zs_length _)) hDl hone ?_))
          refine bodyPost_ret (v := .tuple #[.agg X, .bool true]) ?_ rfl ⟨by rw [hgot.out, HI.out], below_setRow hS.2.2.2 (by omega) _⟩
          exact ret_cell2 (fn := Try.f66) rfl _ _ (w.heap.size + 1) 109 X _ _ rfl rfl (hS.2.2.1.set _) Try.underlying109 rfl (by rw [hDl]; exact size109)
        · have hi : isD no p = false := by rw [HRES.out, decide_eq_false hq]
          have hgot : Hid ((gotD no p).arr = D.zero.arr) := by show _ = _; unfold gotD; rw [hi]; rfl
          rw [decide_eq_false hq]
          have HI : Hid _ := hi
          clear hq hi
          simp only [Bool.not_false]
          go_wp2_with (first
            | (refine build_none rfl 109 rfl _ built109 ?_)
            | (refine store_cells rfl 109 (.tmp 4) (.tmp 36) rfl (w.heap.size + 1) D.zero.arr rfl rfl 109 _ hS.2.2.1 68 size109 (D.arr_size _ (zs_length _)) (D.arr_size _ (zs_length _)) (D.arr_one _) ?_))
          refine bodyPost_ret (v := .tuple #[.agg D.zero.arr, .bool false]) ?_ rfl ⟨by rw [hgot.out, HI.out], below_setRow hS.2.2.2 (by omega) _⟩
          exact ret_cell2 (fn := Try.f66) rfl _ _ (w.heap.size + 1) 109 D.zero.arr _ _ rfl rfl (hS.2.2.1.set _) Try.underlying109 rfl (by rw [D.arr_size _ (zs_length _)]; exact size109)
def liveAt (p : List Int) (a : Nat) : Bool := decide (p.getD a 0 = 1) && decide (a ≤ 213)
def overAt (p : List Int) (a : Nat) : Bool := decide ((213 : Int) - a < p.getD (a + 10) 0)
def rNew (p : List Int) (a : Nat) : O := if liveAt p a then oAt p a else O.zero
def rNext (p : List Int) (a : Nat) : Nat := if liveAt p a then a + 11 + (p.getD (a + 10) 0).toNat else a + 1
def rBad (p : List Int) (a : Nat) : Bool := liveAt p a && overAt p a
def rO (p : List Int) : Nat → Option (List O × Nat)
  | 0 => some ([], 16)
  | k + 1 => match rO p k with
    | none => none
    | some (l, a) => if a < 224 then (if rBad p a then none else some (l ++ [rNew p a], rNext p a)) else some (l, a)
theorem rO_stay (p : List Int) (l : List O) (a : Nat) (ha : 224 ≤ a) (k : Nat) (h : rO p k = some (l, a)) : ∀ j, rO p (k + j) = some (l, a)
  | 0 => h
  | j + 1 => by
    show (match rO p (k + j) with | none => none | some (l, a) => if a < 224 then (if rBad p a then none else some (l ++ [rNew p a], rNext p a)) else some (l, a)) = _
    rw [rO_stay p l a ha k h j]
    simp; omega
theorem rO_none (p : List Int) (k : Nat) (h : rO p k = none) : ∀ j, rO p (k + j) = none
  | 0 => h
  | j + 1 => by
    show (match rO p (k + j) with | none => none | some (l, a) => if a < 224 then (if rBad p a then none else some (l ++ [rNew p a], rNext p a)) else some (l, a)) = _
    rw [rO_none p k h j]
theorem rO_end (p : List Int) (l : List O) (a k n : Nat) (h : rO p k = some (l, a)) (hk : k ≤ n) (he : k = n ∨ 224 ≤ a) : rO p n = some (l, a) := by
  rcases he with rfl | he
  · exact h
  · obtain ⟨j, rfl⟩ := Nat.exists_eq_add_of_le hk
    exact rO_stay p l a he k h j
theorem rO_bad (p : List Int) (l : List O) (a k n : Nat) (h : rO p k = some (l, a)) (hk : k < n) (ha : a < 224) (hb : rBad p a = true) : rO p n = none := by
  have h1 : rO p (k + 1) = none := by
    show (match rO p k with | none => none | some (l, a) => if a < 224 then (if rBad p a then none else some (l ++ [rNew p a], rNext p a)) else some (l, a)) = _
    rw [h]; simp [ha, hb]
  obtain ⟨j, rfl⟩ := Nat.exists_eq_add_of_le (show k + 1 ≤ n by omega)
  exact rO_none p _ h1 j
theorem rO_step (p : List Int) (l : List O) (a k : Nat) (h : rO p k = some (l, a)) (ha : a < 224) (hb : rBad p a = false) : rO p (k + 1) = some (l ++ [rNew p a], rNext p a) := by
  show (match rO p k with | none => none | some (l, a) => if a < 224 then (if rBad p a then none else some (l ++ [rNew p a], rNext p a)) else some (l, a)) = _
  rw [h]; simp [ha, hb]
theorem rO_fits (p : List Int) : ∀ k l a, rO p k = some (l, a) → (∀ o ∈ l, o.Fits) ∧ l.length ≤ k
  | 0, l, a, h => by
    have : l = [] := by simp [rO] at h; exact h.1
    subst this; simp
  | k + 1, l, a, h => by
    have h' : (match rO p k with | none => none | some (l, a) => if a < 224 then (if rBad p a then none else some (l ++ [rNew p a], rNext p a)) else some (l, a)) = some (l, a) := h
    cases hr : rO p k with
    | none => rw [hr] at h'; simp at h'
    | some x =>
      obtain ⟨l0, a0⟩ := x
      obtain ⟨i1, i2⟩ := rO_fits p k l0 a0 hr
      rw [hr] at h'
      simp only at h'
      split at h'
      · split at h'
        · simp at h'
        · simp only [Option.some.injEq, Prod.mk.injEq] at h'
          rw [← h'.1]
          refine ⟨fun o ho => ?_, by simp; omega⟩
          rcases List.mem_append.1 ho with q | q
          · exact i1 o q
          · rw [List.mem_singleton.1 q]
            unfold rNew; split
            · exact oAt_fits p _
            · exact O.zero_fits
      · simp only [Option.some.injEq, Prod.mk.injEq] at h'
        rw [← h'.1]
        exact ⟨i1, by omega⟩
theorem rO_put (no lsn : Int) (os : List O) (hm : may os = true) (hf : ∀ o ∈ os, o.Fits) (p : List Int) (hp : p = payT 2 no lsn (undoT os)) : ∀ k, k ≤ os.length → rO p k = some (os.take k, 16 + (oldsT (os.take k)).length)
  | 0, _ => by simp [rO, oldsT]
  | k + 1, hk => by
    have ih := rO_put no lsn os hm hf p hp k (by omega)
    have hul := undoT_le os hm
    have hok := (may_small hm).2.2.1
    have he : os[k]? = some os[k] := by simp [show k < os.length by omega]
    have hmem : os[k] ∈ os := List.getElem_mem _
    have hsp := oldsT_split os k _ he
    have hpl : p.length = 224 := by rw [hp]; exact payT_length _ _ _ _ hul
    have hpb : Bytes p := by rw [hp]; exact payT_bytes _ _ _ _ (undoT_bytes os)
    have hlen : (undoT os).length = 1 + (oldsT (os.take k)).length + ((oldT os[k]).length + (oldsT (os.drop (k + 1))).length) := by
      unfold undoT
      rw [hsp]; simp [low_length]; omega
    have hat : ∀ i, i < (oldT os[k]).length → p.getD (16 + (oldsT (os.take k)).length + i) 0 = (oldT os[k]).getD i 0 := by
      intro i hi
      rw [hp, payT_at _ _ _ _ hul _ (by omega), show 16 + (oldsT (os.take k)).length + i = 15 + (1 + (oldsT (os.take k)).length + i) by omega, head_text]
      unfold undoT
      rw [hsp, ← List.append_assoc, part_at _ _ _ (1 + (oldsT (os.take k)).length) (by simp [low_length]) i hi]
    obtain ⟨h1, h2⟩ := oAt_of p hpb (16 + (oldsT (os.take k)).length) os[k] (hf _ hmem) (hok _ hmem) (by rw [hpl]; omega) hat
    have hol := oldT_length os[k]
    have hs : (oldsT (os.take (k + 1))).length = (oldsT (os.take k)).length + (oldT os[k]).length := by rw [oldsT_snoc os k _ he, List.length_append]
    have ht : os.take (k + 1) = os.take k ++ [os[k]] := by rw [List.take_add_one, he]; rfl
    obtain ⟨a, HA⟩ : ∃ a, 16 + (oldsT (os.take k)).length = a := ⟨_, rfl⟩
    rw [HA] at ih hat h1 h2
    have hk' := hok _ hmem
    unfold okO at hk'
    simp only [Bool.and_eq_true, Bool.or_eq_true, decide_eq_true_eq] at hk'
    have ha : a + (oldT os[k]).length ≤ 224 := by omega
    cases hlv : (os[k]).live with
    | false =>
      have hz : os[k] = O.zero := by rcases hk'.1 with q | q
                                     · rw [hlv] at q; cases q
                                     · exact q
      have hl1 : (oldT os[k]).length = 1 := by rw [hol, hlv]; rfl
      have h0 : p.getD a 0 = 0 := by have := hat 0 (by omega); rw [Nat.add_zero] at this; rw [this, hz]; rfl
      have hla : liveAt p a = false := by unfold liveAt; rw [h0]; rfl
      rw [rO_step p _ a k ih (by omega) (by unfold rBad; rw [hla]; rfl), ht, hz]
      unfold rNew rNext
      rw [hla, if_neg (by decide), if_neg (by decide)]
      rw [ht, hl1, hz] at hs
      rw [hs, ← Nat.add_assoc, HA]
    | true =>
      have hl1 : (oldT os[k]).length = 11 + os[k].delta.size := by rw [hol, hlv]; rfl
      have h0 : p.getD a 0 = 1 := by have := hat 0 (by omega); rw [Nat.add_zero] at this; rw [this, old_kind _ hlv]
      have h10 : p.getD (a + 10) 0 = os[k].delta.size := by
        rw [hat 10 (by omega)]
        have := old_size _ hlv 0 (by omega)
        rw [Nat.add_zero] at this
        rw [this]
        have := hk'.2
        simp; omega
      have hla : liveAt p a = true := by unfold liveAt; rw [h0]; simp; omega
      have hov : overAt p a = false := by unfold overAt; rw [h10]; simp; omega
      rw [rO_step p _ a k ih (by omega) (by unfold rBad; rw [hla, hov]; rfl)]
      unfold rNew rNext
      rw [hla, if_pos rfl, if_pos rfl, h1, h10, hs, ht, hl1, Int.toNat_natCast]
      congr 2
      omega
def rIs (no : Int) (p : List Int) : Bool := match rO p (cntU p) with
  | none => false
  | some (l, _) => may l && decide (putU no (lsnOf p) l = p)
theorem rIs_true (no : Int) (p : List Int) (h : isU no p = true) : ∃ a, rO p (cntU p) = some (uOf p, a) := by
  unfold isU at h
  simp only [Bool.and_eq_true, decide_eq_true_eq] at h
  obtain ⟨hm, hp⟩ := h
  rw [putU_may _ _ _ hm] at hp
  have hl : (uOf p).length = cntU p := readO_length p 16 (cntU p)
  have := rO_put no (lsnOf p) (uOf p) hm (readO_fits p 16 _) p hp.symm (uOf p).length (Nat.le_refl _)
  rw [List.take_length, hl] at this
  exact ⟨_, this⟩
theorem rIs_eq (no : Int) (p : List Int) : rIs no p = isU no p := by
  cases h : isU no p with
  | true =>
    obtain ⟨a, ha⟩ := rIs_true no p h
    unfold rIs
    rw [ha]
    unfold isU at h
    simp only [Bool.and_eq_true, decide_eq_true_eq] at h
    simp [h.1, h.2]
  | false =>
    unfold rIs
    cases hr : rO p (cntU p) with
    | none => rfl
    | some x =>
      obtain ⟨l, a⟩ := x
      simp only
      rw [Bool.eq_false_iff]
      intro q
      simp only [Bool.and_eq_true, decide_eq_true_eq] at q
      obtain ⟨hm, hp⟩ := q
      have hf := (rO_fits p _ l a hr).1
      have hp2 := hp
      rw [putU_may _ _ _ hm] at hp2
      have hu : uOf p = l := by
        have := uOf_put no (lsnOf p) l hm hf
        rw [hp2] at this; exact this
      have : isU no p = true := by unfold isU; rw [hu, hm, hp]; simp
      rw [this] at h; cases h
end Go.Proofs.Ytehogiondcpbcaa
