/-
  Proved here: the document's laid (varveref06): the payload of a kind, a number, an LSN and a text; and its num, LSN. Proved here: the document's num, LSN, PutData and GetData (varveref06). Proved here: the document's GetData (varveref06). Plain facts: how the document reads an undo page's records (varveref06.GetUndo), and that it comes to the same as the program's reading.
-/
import Derived.Test.YtehogiondcpbcaaJq21
import Derived.Test.YtehogiondcpbcaaJq23
namespace Go.Proofs.Ytehogiondcpbcaa
open Go.ChangeShapes Go.WideShapes Go.ChangeAt Go.RowKit
set_option linter.unusedVariables false
set_option linter.unusedSimpArgs false
set_option maxRecDepth 20000
theorem padT_is (l : List Int) (h : l.length ≤ 224) : padT l = l ++ zs (224 - l.length) := by
  unfold padT splice
  rw [List.take_zero, List.nil_append, Nat.zero_add]
  unfold zs
  rw [List.drop_replicate]
theorem payT_is (k no lsn : Int) (t : List Int) (ht : t.length ≤ 209) (hk : 0 ≤ k ∧ k ≤ 255) (F B : List Int) (hF : [k] ++ low no 2 = F) (hB : low lsn 8 ++ t ++ zs (209 - t.length) = B) :
    payT k no lsn t = F ++ low (sumT (F ++ zs 4 ++ B)) 4 ++ B := by
  have hl : (headT k no lsn ++ t).length ≤ 224 := by rw [List.length_append, headT_length]; omega
  have e : padT (headT k no lsn ++ t) = F ++ zs 4 ++ B := by
    rw [padT_is _ hl, ← hF, ← hB, List.length_append, headT_length, show 224 - (15 + t.length) = 209 - t.length by omega]
    unfold headT
    rw [low_one k hk]
    have : low 0 4 = zs 4 := by decide
    rw [this]
    simp [List.append_assoc]
  have h3 : F.length = 3 := by rw [← hF]; simp [low_length]
  unfold payT
  rw [e]
  unfold sealT splice
  rw [low_length]
  have t3 : (F ++ zs 4 ++ B).take 3 = F := by rw [List.append_assoc, List.take_append_of_le_length (by omega), List.take_of_length_le (by omega)]
  have d7 : (F ++ zs 4 ++ B).drop (3 + 4) = B := by
    rw [List.drop_append_of_le_length (by rw [List.length_append, zs_length]; omega), List.drop_eq_nil_of_le (by rw [List.length_append, zs_length]; omega)]; rfl
  rw [t3, d7]
  exact (List.append_assoc _ _ _).symm
set_option maxHeartbeats 2000000 in
theorem laid_any (k no lsn : Int) (t : List Int) (w : World) (hk : 0 ≤ k ∧ k ≤ 255) (hno : 0 ≤ no ∧ no ≤ 65535) (hl : 0 ≤ lsn ∧ lsn ≤ 18446744073709551615) (ht : t.length ≤ 209) (hty : Bytes t) :
    Calls Try.prog 85 #[.int .u8 k, .int .u16 no, .int .u64 lsn, .string (strOfNums t)] w fun e w' => e = .returned (.agg (bs (payT k no lsn t))) ∧ Below w.heap.size w w' := by
  have hz := zero34
  have r0 : Row (w.alloc (.cells (bs (zs 224)) 34)) w.heap.size (bs (zs 224)) 34 := Row.new _ _ _
  have b0 : Below w.heap.size w (w.alloc (.cells (bs (zs 224)) 34)) := (Below.refl _ _).alloc (Nat.le_refl _) _
  have ewn : IntKind.u64.wrap no = no := by rw [IntKind.wrap_u64]; omega
  obtain ⟨N2, HN2⟩ : ∃ A, Hid (low no 2 = A) := ⟨_, rfl⟩
  obtain ⟨L8, HL8⟩ : ∃ A, Hid (low lsn 8 = A) := ⟨_, rfl⟩
  obtain ⟨F, HF⟩ : ∃ A, Hid ([k] ++ N2 = A) := ⟨_, rfl⟩
  obtain ⟨B0, HB0⟩ : ∃ A, Hid (L8 ++ t = A) := ⟨_, rfl⟩
  obtain ⟨B, HB⟩ : ∃ A, Hid (B0 ++ zs (209 - t.length) = A) := ⟨_, rfl⟩
  obtain ⟨Q, HQ⟩ : ∃ A, Hid (F ++ zs 4 ++ B = A) := ⟨_, rfl⟩
  obtain ⟨sm, HS⟩ : ∃ x, Hid (sumT Q = x) := ⟨_, rfl⟩
  have hsf := sumT_fits Q
  rw [HS.out] at hsf
  obtain ⟨S4, HS4⟩ : ∃ A, Hid (low sm 4 = A) := ⟨_, rfl⟩
  obtain ⟨R, HR⟩ : ∃ A, Hid (payT k no lsn t = A) := ⟨_, rfl⟩
  have HRES : Hid (F ++ S4 ++ B = R) := by
    show _ = _
    rw [← HR.out, payT_is k no lsn t ht hk F B (by rw [HN2.out, HF.out]) (by rw [HL8.out, HB0.out, HB.out]), HQ.out, HS.out, HS4.out]
  have hRl : R.length = 224 := by rw [← HR.out]; exact payT_length _ _ _ _ ht
  have hRb : Bytes R := by rw [← HR.out]; exact payT_bytes _ _ _ _ hty
  have hF3 : F.length = 3 := by rw [← HF.out, ← HN2.out]; simp [low_length]
  have hB0l : B0.length = 8 + t.length := by rw [← HB0.out, ← HL8.out]; simp [low_length]
  have hBl : B.length = 217 := by rw [← HB.out, List.length_append, hB0l, zs_length]; omega
  have P1 : Hid _ := rput_at no 2 N2 HN2.out (by omega) (by omega) (by decide)
  have P2 : Hid _ := rput_at lsn 8 L8 HL8.out (by omega) (by omega) (by decide)
  have P3 : Hid _ := rput_at sm 4 S4 HS4.out (by omega) (by omega) (by decide)
  have hz1 : (strOfNums [k]).size = 1 := rfl
  have hz2 : (strOfNums N2).size = 2 := by rw [strOfNums_size, ← HN2.out, low_length]
  have hz3 : (strOfNums F).size = 3 := by rw [strOfNums_size, hF3]
  have hz4 : (strOfNums L8).size = 8 := by rw [strOfNums_size, ← HL8.out, low_length]
  have hz5 : (strOfNums t).size = t.length := strOfNums_size _
  have ha1 : strOfNums [k] ++ strOfNums N2 = strOfNums F := by rw [tx_app, HF.out]
  have ha2 : strOfNums L8 ++ strOfNums t = strOfNums B0 := by rw [tx_app, HB0.out]
  rw [HR.out]
  go_enter Try.func85, Try.ntmps85
  go_upto_region 1 with fail
  generalize w.alloc (.cells (bs (zs 224)) 34) = w1 at r0 b0 ⊢
  go_cut [9] from 14 to 50 (fun f wx => f = .string (strOfNums F) ∧ Row wx w.heap.size (bs (zs 224)) 34 ∧ Below w.heap.size w wx)
  case first =>
    refine wp_region_held_drew (S := fun w' => Below w.heap.size w w') (by kernel_rfl) b0.drew fun hS => ?_
    have r0 : Row w1.drew w.heap.size (bs (zs 224)) 34 := r0
    clear b0
    generalize w1.drew = wd at r0 hS ⊢
    refine tkI (i := 0) (v := .int .u8 k) rfl (Or.inl ⟨by rfl, fun w _ => by go_simp⟩) hS ?_
    try simp only [Act.put, nz]
    refine tkI (i := 3) (v := .int .u16 no) rfl (Or.inl ⟨by rfl, fun w _ => by go_simp⟩) hS ?_
    try simp only [Act.put, nz]
    refine tkI (i := 4) (v := .int .u64 no) rfl (Or.inl ⟨by rfl, fun w _ => by go_simp⟩) hS ?_
    try simp only [Act.put, nz]
    refine wpAnyH_ready (rs := [1, 5]) (by kernel_rfl) (by simp) ?_
    exact (AllReadyH.cons rfl (fun K hK => by
      have ngb := hS.size
      have ngbr0 := r0.lt
      have rb : Row (wd.alloc (.cells #[.int .u8 k] 5)) wd.heap.size #[.int .u8 k] 5 := Row.new _ _ _
      have r0 := r0.alloc (.cells #[.int .u8 k] 5)
      go_simp
      refine hK.out _ _ (hS.alloc hS.size _) fun hS => ?_
      try simp only [Act.put, nz]
      generalize wd.alloc (.cells #[.int .u8 k] 5) = w1_1 at rb r0 hS ⊢
      generalize wd.heap.size = gb at rb ngb ngbr0 ⊢
      refine wpAnyH_ready (rs := [2, 5]) (by kernel_rfl) (by simp) ?_
      exact (AllReadyH.cons rfl (fun K hK => by
        have cc := str_row (ys := [k]) rb 1 1 rfl
        go_simp
        refine hK.out _ _ (hS) fun hS => ?_
        try simp only [Act.put, nz]
        clear cc
        refine wpAnyH_ready (rs := [5]) (by kernel_rfl) (by simp) ?_
        refine AllReadyH.cons rfl (fun K hK => ?_) AllReadyH.nil
        go_simp
        go_at_call 87
        refine (P1.out _).mono ?_
        rintro e w3_5 ⟨rfl, hcb⟩
        have r0 := r0.below hcb r0.lt
        have rb := rb.below hcb rb.lt
        refine hK.out _ _ (hS.trans (hcb.mono hS.size)) fun hS => ?_
        try simp only [Act.put, nz]
        clear hcb
        refine tkI (i := 6) (v := .string (strOfNums F)) rfl (Or.inl ⟨by rfl, fun w _ => by go_simp⟩) hS ?_
        try simp only [Act.put, nz]
        refine tkI (i := 7) (v := .string (strOfNums F)) rfl (Or.inl ⟨by rfl, fun w _ => by go_simp⟩) hS ?_
        try simp only [Act.put, nz]
        refine wpAnyH_done (by kernel_rfl) ?_ _
        go_wp2
        go_meet
        exact ⟨rfl, r0, hS⟩
      ) (AllReadyH.cons rfl (fun K hK => by
        go_simp
        go_at_call 87
        refine (P1.out _).mono ?_
        rintro e w2_5 ⟨rfl, hcb⟩
        have r0 := r0.below hcb r0.lt
        have rb := rb.below hcb rb.lt
        refine hK.out _ _ (hS.trans (hcb.mono hS.size)) fun hS => ?_
        try simp only [Act.put, nz]
        clear hcb
        refine wpAnyH_ready (rs := [2]) (by kernel_rfl) (by simp) ?_
        refine AllReadyH.cons rfl (fun K hK => ?_) AllReadyH.nil
        have cc := str_row (ys := [k]) rb 1 1 rfl
        go_simp
        refine hK.out _ _ (hS) fun hS => ?_
        try simp only [Act.put, nz]
        clear cc
        refine tkI (i := 6) (v := .string (strOfNums F)) rfl (Or.inl ⟨by rfl, fun w _ => by go_simp⟩) hS ?_
        try simp only [Act.put, nz]
        refine tkI (i := 7) (v := .string (strOfNums F)) rfl (Or.inl ⟨by rfl, fun w _ => by go_simp⟩) hS ?_
        try simp only [Act.put, nz]
        refine wpAnyH_done (by kernel_rfl) ?_ _
        go_wp2
        go_meet
        exact ⟨rfl, r0, hS⟩
      ) AllReadyH.nil))
    ) (AllReadyH.cons rfl (fun K hK => by
      go_simp
      go_at_call 87
      refine (P1.out _).mono ?_
      rintro e w1_5 ⟨rfl, hcb⟩
      have r0 := r0.below hcb r0.lt
      refine hK.out _ _ (hS.trans (hcb.mono hS.size)) fun hS => ?_
      try simp only [Act.put, nz]
      clear hcb
      refine wpAnyH_ready (rs := [1]) (by kernel_rfl) (by simp) ?_
      refine AllReadyH.cons rfl (fun K hK => ?_) AllReadyH.nil
      have ngb := hS.size
      have ngbr0 := r0.lt
      have rb : Row (w1_5.alloc (.cells #[.int .u8 k] 5)) w1_5.heap.size #[.int .u8 k] 5 := Row.new _ _ _
      have r0 := r0.alloc (.cells #[.int .u8 k] 5)
      go_simp
      refine hK.out _ _ (hS.alloc hS.size _) fun hS => ?_
      try simp only [Act.put, nz]
      generalize w1_5.alloc (.cells #[.int .u8 k] 5) = w2_1 at rb r0 hS ⊢
      generalize w1_5.heap.size = gb at rb ngb ngbr0 ⊢
      refine wpAnyH_ready (rs := [2]) (by kernel_rfl) (by simp) ?_
      refine AllReadyH.cons rfl (fun K hK => ?_) AllReadyH.nil
      have cc := str_row (ys := [k]) rb 1 1 rfl
      go_simp
      refine hK.out _ _ (hS) fun hS => ?_
      try simp only [Act.put, nz]
      clear cc
      refine tkI (i := 6) (v := .string (strOfNums F)) rfl (Or.inl ⟨by rfl, fun w _ => by go_simp⟩) hS ?_
      try simp only [Act.put, nz]
      refine tkI (i := 7) (v := .string (strOfNums F)) rfl (Or.inl ⟨by rfl, fun w _ => by go_simp⟩) hS ?_
      try simp only [Act.put, nz]
      refine wpAnyH_done (by kernel_rfl) ?_ _
      go_wp2
      go_meet
      exact ⟨rfl, r0, hS⟩
    ) AllReadyH.nil))
  case rest =>
    clear r0 b0 P1 ha1 hz1 hz2
    obtain ⟨rfl, r0, hB⟩ := hcut
    go_wp2_with (go_at_call 87; refine (P2.out _).mono ?_; clear P2; rintro e w2 ⟨rfl, h2⟩)
    have r0 := r0.below h2 r0.lt
    have hB := hB.trans (h2.mono hB.size)
    clear h2 ha2 hz4 hz5
    go_loopw [10] (fun s wr => ∃ j : Nat, j ≤ 209 - t.length ∧ s = .string (strOfNums (B0 ++ zs j)) ∧ Row wr w.heap.size (bs (zs 224)) 34 ∧ Below w.heap.size w wr) (fun s _ => 217 - (match s with | .string b => b.size | _ => 0))
    case atStart => exact ⟨0, by omega, by simp [zs], r0, hB⟩
    case round =>
      clear r0 hB
      obtain ⟨j, hj, rfl, r0, hB⟩ := hrel
      by_cases hjl : j < 209 - t.length
      · obtain ⟨Y, HY⟩ : ∃ A, Hid (B0 ++ zs j = A) := ⟨_, rfl⟩
        obtain ⟨Y', HY'⟩ : ∃ A, Hid (B0 ++ zs (j + 1) = A) := ⟨_, rfl⟩
        have hYY : strOfNums Y ++ { data := #[0] } = strOfNums Y' := by
          have : ({ data := #[0] } : ByteArray) = strOfNums [0] := rfl
          rw [this, tx_app, ← HY.out, ← HY'.out, List.append_assoc, zs_snoc]
        obtain ⟨n, HN⟩ : ∃ n, Hid (8 + t.length + j = n) := ⟨_, rfl⟩
        have hn : n < 217 := by rw [← HN.out]; omega
        have hzY : (strOfNums Y).size = n := by rw [strOfNums_size, ← HY.out, List.length_append, hB0l, zs_length, HN.out]
        have hzY' : (strOfNums Y').size = n + 1 := by rw [strOfNums_size, ← HY'.out, List.length_append, hB0l, zs_length, ← HN.out]; omega
        rw [HY.out]
        clear hRl hRb hF3 hB0l hBl
        have hn' : (n : Int) < 217 := by omega
        go_wp2
        go_roundw
        case rel => exact ⟨j + 1, by omega, by rw [HY'.out], r0, hB⟩
        case measure => simp only [hzY, hzY']; omega
      · obtain rfl : j = 209 - t.length := by omega
        rw [HB.out]
        clear hj hjl
        have hzB : (strOfNums B).size = 217 := by rw [strOfNums_size, hBl]
        obtain ⟨F0, HF0⟩ : ∃ A, Hid (F ++ zs 4 = A) := ⟨_, rfl⟩
        have ha1 : strOfNums F ++ { data := #[0, 0, 0, 0] } = strOfNums F0 := by
          have : ({ data := #[0, 0, 0, 0] } : ByteArray) = strOfNums (zs 4) := rfl
          rw [this, tx_app, HF0.out]
        have ha2 : strOfNums F0 ++ strOfNums B = strOfNums Q := by rw [tx_app, ← HF0.out, HQ.out]
        have hz0 : (strOfNums F0).size = 7 := by rw [strOfNums_size, ← HF0.out, List.length_append, hF3]; rfl
        have hzQ : (strOfNums Q).size = 224 := by rw [← ha2, ByteArray.size_append, hz0, hzB]
        have HSM : Hid _ := fun w => rsum_any (strOfNums Q) w (by rw [hzQ]; unfold maxLen; omega)
        have hsm2 : u (more 0#32 (strOfNums Q)) = sm := HS.out
        rw [hsm2] at HSM
        clear hsm2
        have ews : IntKind.u64.wrap sm = sm := by rw [IntKind.wrap_u64]; omega
        obtain ⟨G, HG⟩ : ∃ A, Hid (F ++ S4 = A) := ⟨_, rfl⟩
        have hz6 : (strOfNums S4).size = 4 := by rw [strOfNums_size, ← HS4.out, low_length]
        have ha3 : strOfNums F ++ strOfNums S4 = strOfNums G := by rw [tx_app, HG.out]
        have hz7 : (strOfNums G).size = 7 := by rw [← ha3, ByteArray.size_append, hz3, hz6]
        have ha4 : strOfNums G ++ strOfNums B = strOfNums R := by rw [tx_app, ← HG.out, HRES.out]
        go_wp2_with (first
          | (go_at_call 102; refine (HSM.out _).mono ?_; clear HSM; rintro e w3 ⟨rfl, rfl⟩)
          | (go_at_call 87; refine (P3.out _).mono ?_; clear P3; rintro e w4 ⟨rfl, h4⟩))
        have r0 := r0.below h4 r0.lt
        have hB := hB.trans (h4.mono hB.size)
        have hw4 := r0.lt
        clear h4 ha1 ha2 ha3 ha4 hz0 hzB hzQ hz3 hz6 hz7 ews
        have hzR : (strOfNums R).size = 224 := by rw [strOfNums_size, hRl]
        have HAT : Hid (∀ i (h : i < (strOfNums R).size), (((strOfNums R)[i]'h).toNat : Int) = R.getD i 0) := fun i h => by rw [← byteAt_in, byteAt_tx hRb]
        have r1 : Row (w4.alloc (.cells (bs (zs 224)) 34)) w4.heap.size (bs (upto 224 (fun i => R.getD i 0) 0)) 34 := by rw [← upto_zero]; exact Row.new _ _ _
        have r0 := r0.alloc (.cells (bs (zs 224)) 34)
        have hBs := hB.size
        have hB := hB.alloc hB.size (.cells (bs (zs 224)) 34)
        go_loopw [13] (fun i wr => ∃ k : Nat, k ≤ 224 ∧ i = .int .i64 k ∧ Row wr w.heap.size (bs (zs 224)) 34 ∧ Row wr w4.heap.size (bs (upto 224 (fun i => R.getD i 0) k)) 34 ∧ Below w.heap.size w wr) (fun i _ => 224 - (intOf i).toNat)
        case atStart => exact ⟨0, by omega, rfl, r0, r1, hB⟩
        case round =>
          clear r0 hB r1
          obtain ⟨k, hk, rfl, r0, r1, hB⟩ := hrel
          by_cases hkl : k < 224
          · have hx := HAT.out k (by omega)
            have hxb := hRb.at k
            have hup := upto_length 224 (fun i => R.getD i 0) k
            have hcell := row_cell r1 k (by omega)
            have hfz := row_frozen r1 k
            have r1' := row_setCell r1 k (R.getD k 0)
            rw [upto_step] at r1'
            have r0' := row_setCell_other r0 (show w.heap.size ≠ w4.heap.size by omega) k (.int .u8 (R.getD k 0))
            have hB' := hB.setCell (p := ⟨w4.heap.size, k, none⟩) hBs (.int .u8 (R.getD k 0))
            generalize R.getD k 0 = x at hx hxb r1' r0' hB' ⊢
            generalize hv : (upto 224 (fun i => R.getD i 0) k).getD k 0 = y at hcell ⊢
            clear hv r1 hup HAT hRl hRb hF3 hB0l hBl
            have hkl' : (k : Int) < 224 := by omega
            go_wp2
            go_roundw
            case rel => exact ⟨k + 1, by omega, by go_num, r0', r1', hB'⟩
            case measure => simp [intOf]; omega
          · obtain rfl : k = 224 := by omega
            have e : upto 224 (fun i => R.getD i 0) 224 = R := by rw [upto_whole]; exact (eq_fl _ _ _ hRl (fun j hj => rfl)).symm
            rw [e] at r1
            go_wp2_with (first
              | (refine load_row rfl 34 (.tmp 12) rfl w4.heap.size rfl 34 (bs R) r1 224 5 Try.underlying34 size34 (by rw [bs_size, hRl]) ?_)
              | (refine store_row rfl 34 (.tmp 8) (.tmp 50) rfl w.heap.size R rfl rfl 34 _ r0 224 size34 (by rw [bs_size, zs_length]) hRl ?_))
            refine bodyPost_ret (v := .agg (bs R)) ?_ rfl ⟨rfl, below_setRow hB (Nat.le_refl _) _⟩
            exact ret_row (fn := Try.f85) rfl _ _ w.heap.size 34 (bs R) 224 5 rfl (r0.set _) Try.underlying34 size34 (by rw [bs_size, hRl])
set_option maxHeartbeats 2000000 in
theorem rputData_any (no : Int) (d : D) (w : World) (hno : 0 ≤ no ∧ no ≤ 65535) (hd : d.Ok) :
    Calls Try.prog 55 #[.int .u16 no, .agg d.arr] w fun e w' => e = .returned (.agg (bs (putD no d))) ∧ Below w.heap.size w w' := by
  have hz := zero34
  have r0 : Row ((w.alloc (.cells d.arr 109)).alloc (.cells (bs (zs 224)) 34)) w.heap.size d.arr 109 := (Row.new _ _ _).alloc _
  have r1 : Row ((w.alloc (.cells d.arr 109)).alloc (.cells (bs (zs 224)) 34)) (w.heap.size + 1) (bs (zs 224)) 34 := by have := Row.new (w.alloc (.cells d.arr 109)) (bs (zs 224)) 34; simpa using this
  have ab : Below w.heap.size w ((w.alloc (.cells d.arr 109)).alloc (.cells (bs (zs 224)) 34)) := ((Below.refl _ _).alloc (Nat.le_refl _) _).alloc (by simp) _
  have HB : Hid _ := fun (w' : World) (h : Row w' w.heap.size d.arr 109) => D.str h hd.len
  have HA0 : Hid _ := d.at0
  have HA1 : Hid _ := d.at1
  have HA2 : Hid _ := d.at2
  have HA3 : Hid _ := d.at3
  have hlen := putD_length no d hd.len
  obtain ⟨hlsn, hts, hpg, hsl, hbl, hby⟩ := hd
  have HP : Hid _ := fun w => laid_any 1 no d.lsn (dataT d) w (by omega) hno hlsn (by rw [dataT_length d hbl]; omega) (dataT_bytes d hby)
  have P1 : Hid _ := rput_at d.ts 4 _ rfl (by omega) (by omega) (by decide)
  have P2 : Hid _ := rput_at d.page 2 _ rfl (by omega) (by omega) (by decide)
  have e1 : IntKind.u64.wrap d.ts = d.ts := by rw [IntKind.wrap_u64]; omega
  have e2 : IntKind.u64.wrap d.page = d.page := by rw [IntKind.wrap_u64]; omega
  obtain ⟨T, HT⟩ : ∃ A, Hid (dataT d = A) := ⟨_, rfl⟩
  have HT' : Hid (low d.ts 4 ++ low d.page 2 ++ [d.slot] ++ d.body = T) := by
    show _ = _
    rw [← HT.out]; unfold dataT refT; rw [low_one _ hsl]; simp [List.append_assoc]
  obtain ⟨A1, HA1'⟩ : ∃ A, Hid (low d.ts 4 = A) := ⟨_, rfl⟩
  obtain ⟨A2, HA2'⟩ : ∃ A, Hid (low d.page 2 = A) := ⟨_, rfl⟩
  obtain ⟨A3, HA3'⟩ : ∃ A, Hid (A1 ++ A2 = A) := ⟨_, rfl⟩
  obtain ⟨A4, HA4'⟩ : ∃ A, Hid (A3 ++ [d.slot] = A) := ⟨_, rfl⟩
  obtain ⟨R, HR⟩ : ∃ A, Hid (putD no d = A) := ⟨_, rfl⟩
  have HR' : Hid (payT 1 no d.lsn T = R) := by show _ = _; rw [← HR.out, ← HT.out]; rfl
  have hz1 : (strOfNums A1).size = 4 := by rw [strOfNums_size, ← HA1'.out, low_length]
  have hz2 : (strOfNums A2).size = 2 := by rw [strOfNums_size, ← HA2'.out, low_length]
  have ha1 : strOfNums A1 ++ strOfNums A2 = strOfNums A3 := by rw [tx_app, HA3'.out]
  have hz3 : (strOfNums A3).size = 6 := by rw [← ha1, ByteArray.size_append, hz1, hz2]
  have hz4 : (strOfNums [d.slot]).size = 1 := rfl
  have ha2 : strOfNums A3 ++ strOfNums [d.slot] = strOfNums A4 := by rw [tx_app, HA4'.out]
  have hz5 : (strOfNums A4).size = 7 := by rw [← ha2, ByteArray.size_append, hz3, hz4]
  have hz6 : (strOfNums d.body).size = 64 := by rw [strOfNums_size, hbl]
  have ha3 : strOfNums A4 ++ strOfNums d.body = strOfNums T := by rw [tx_app, ← HA4'.out, ← HA3'.out, ← HA1'.out, ← HA2'.out, HT'.out]
  rw [HA1'.out] at P1
  rw [HA2'.out] at P2
  rw [HT.out, HR'.out] at HP
  rw [HR.out] at hlen ⊢
  obtain ⟨X, HX⟩ : ∃ X, Hid (d.arr = X) := ⟨_, rfl⟩
  rw [HX.out] at r0 r1 ab HB HA0 HA1 HA2 HA3 ⊢
  have hRb : (bs R).size = 224 := by rw [bs_size, hlen]
  clear hlen hbl hby
  go_enter Try.func55, Try.ntmps55
  go_upto_region 1 with fail
  generalize (w.alloc (.cells X 109)).alloc (.cells (bs (zs 224)) 34) = w1 at r0 r1 ab ⊢
  refine wp_region_held_drew (S := fun w' => Row w' w.heap.size X 109 ∧ Below w.heap.size w w') (by kernel_rfl) ⟨r0, ab.drew⟩ fun hS => ?_
  have r1 : Row w1.drew (w.heap.size + 1) (bs (zs 224)) 34 := r1
  clear r0 ab
  generalize w1.drew = wd at r1 hS ⊢
  refine tkI (i := 0) (v := .int .u16 no) rfl (Or.inl ⟨by rfl, fun w _ => by go_simp⟩) hS ?_
  try simp only [Act.put, nz]
  refine tkI (i := 1) (v := .pointer (some ⟨w.heap.size, 0, none⟩)) rfl (Or.inl ⟨by rfl, fun w _ => by go_simp⟩) hS ?_
  try simp only [Act.put, nz]
  refine tkI (i := 2) (v := .int .u64 d.lsn) rfl (Or.inl ⟨by rfl, fun w h => by have c := row_at h.1 0 _ HA0.out; go_simp⟩) hS ?_
  try simp only [Act.put, nz]
  refine tkI (i := 3) (v := .pointer (some ⟨w.heap.size, 1, none⟩)) rfl (Or.inl ⟨by rfl, fun w _ => by go_simp⟩) hS ?_
  try simp only [Act.put, nz]
  refine tkI (i := 4) (v := .int .u32 d.ts) rfl (Or.inl ⟨by rfl, fun w h => by have c := row_at h.1 1 _ HA1.out; go_simp⟩) hS ?_
  try simp only [Act.put, nz]
  refine tkI (i := 5) (v := .int .u64 d.ts) rfl (Or.inl ⟨by rfl, fun w _ => by go_simp⟩) hS ?_
  try simp only [Act.put, nz]
  refine tkI (i := 7) (v := .pointer (some ⟨w.heap.size, 2, none⟩)) rfl (Or.inl ⟨by rfl, fun w _ => by go_simp⟩) hS ?_
  try simp only [Act.put, nz]
  refine tkI (i := 8) (v := .pointer (some ⟨w.heap.size, 2, none⟩)) rfl (Or.inl ⟨by rfl, fun w _ => by go_simp⟩) hS ?_
  try simp only [Act.put, nz]
  refine tkI (i := 9) (v := .int .u16 d.page) rfl (Or.inl ⟨by rfl, fun w h => by have c := row_at h.1 2 _ HA2.out; go_simp⟩) hS ?_
  try simp only [Act.put, nz]
  refine tkI (i := 10) (v := .int .u64 d.page) rfl (Or.inl ⟨by rfl, fun w _ => by go_simp⟩) hS ?_
  try simp only [Act.put, nz]
  refine tkI (i := 13) (v := .pointer (some ⟨w.heap.size, 2, none⟩)) rfl (Or.inl ⟨by rfl, fun w _ => by go_simp⟩) hS ?_
  try simp only [Act.put, nz]
  refine tkI (i := 14) (v := .pointer (some ⟨w.heap.size, 3, none⟩)) rfl (Or.inl ⟨by rfl, fun w _ => by go_simp⟩) hS ?_
  try simp only [Act.put, nz]
  refine tkI (i := 15) (v := .int .u8 d.slot) rfl (Or.inl ⟨by rfl, fun w h => by have c := row_at h.1 3 _ HA3.out; go_simp⟩) hS ?_
  try simp only [Act.put, nz]
  refine tkI (i := 19) (v := .pointer (some ⟨w.heap.size, 4, none⟩)) rfl (Or.inl ⟨by rfl, fun w _ => by go_simp⟩) hS ?_
  try simp only [Act.put, nz]
  refine tkI (i := 20) (v := .slice (some ⟨w.heap.size, 4, none⟩) 64 64) rfl (Or.inl ⟨by rfl, fun w _ => by go_simp⟩) hS ?_
  try simp only [Act.put, nz]
  refine tkI (i := 21) (v := .string (strOfNums d.body)) rfl (Or.inl ⟨by rfl, fun w h => by have c := HB.out w h.1; go_simp⟩) hS ?_
  try simp only [Act.put, nz]
  refine wpAnyH_ready (rs := [6, 16]) (by kernel_rfl) (by simp) ?_
  exact (AllReadyH.cons rfl (fun K hK => by
    go_simp
    go_at_call 87
    refine (P1.out _).mono ?_
    rintro e w1_6 ⟨rfl, hcb⟩
    have r1 := r1.below hcb r1.lt
    refine hK.out _ _ (⟨hS.1.below hcb hS.1.lt, hS.2.trans (hcb.mono hS.2.size)⟩) fun hS => ?_
    try simp only [Act.put, nz]
    clear hcb
    refine wpAnyH_ready (rs := [11, 16]) (by kernel_rfl) (by simp) ?_
    exact (AllReadyH.cons rfl (fun K hK => by
      go_simp
      go_at_call 87
      refine (P2.out _).mono ?_
      rintro e w2_11 ⟨rfl, hcb⟩
      have r1 := r1.below hcb r1.lt
      refine hK.out _ _ (⟨hS.1.below hcb hS.1.lt, hS.2.trans (hcb.mono hS.2.size)⟩) fun hS => ?_
      try simp only [Act.put, nz]
      clear hcb
      refine tkI (i := 12) (v := .string (strOfNums A3)) rfl (Or.inl ⟨by rfl, fun w _ => by go_simp⟩) hS ?_
      try simp only [Act.put, nz]
      refine wpAnyH_ready (rs := [16]) (by kernel_rfl) (by simp) ?_
      refine AllReadyH.cons rfl (fun K hK => ?_) AllReadyH.nil
      have ngb := hS.2.size
      have ngbs0 := hS.1.lt
      have ngbr1 := r1.lt
      have rb : Row (w2_11.alloc (.cells #[.int .u8 d.slot] 5)) w2_11.heap.size #[.int .u8 d.slot] 5 := Row.new _ _ _
      have r1 := r1.alloc (.cells #[.int .u8 d.slot] 5)
      go_simp
      refine hK.out _ _ (⟨hS.1.alloc _, hS.2.alloc hS.2.size _⟩) fun hS => ?_
      try simp only [Act.put, nz]
      generalize w2_11.alloc (.cells #[.int .u8 d.slot] 5) = w3_16 at rb r1 hS ⊢
      generalize w2_11.heap.size = gb at rb ngb ngbs0 ngbr1 ⊢
      refine wpAnyH_ready (rs := [17]) (by kernel_rfl) (by simp) ?_
      refine AllReadyH.cons rfl (fun K hK => ?_) AllReadyH.nil
      have cc := str_row (ys := [d.slot]) rb 1 1 rfl
      go_simp
      refine hK.out _ _ (hS) fun hS => ?_
      try simp only [Act.put, nz]
      clear cc
      refine tkI (i := 18) (v := .string (strOfNums A4)) rfl (Or.inl ⟨by rfl, fun w _ => by go_simp⟩) hS ?_
      try simp only [Act.put, nz]
      refine tkI (i := 22) (v := .string (strOfNums T)) rfl (Or.inl ⟨by rfl, fun w _ => by go_simp⟩) hS ?_
      try simp only [Act.put, nz]
      refine wpAnyH_ready (rs := [23]) (by kernel_rfl) (by simp) ?_
      refine AllReadyH.cons rfl (fun K hK => ?_) AllReadyH.nil
      go_simp
      go_at_call 85
      refine (HP.out _).mono ?_
      rintro e w5_23 ⟨rfl, hcb⟩
      have r1 := r1.below hcb r1.lt
      have rb := rb.below hcb rb.lt
      refine hK.out _ _ (⟨hS.1.below hcb hS.1.lt, hS.2.trans (hcb.mono hS.2.size)⟩) fun hS => ?_
      try simp only [Act.put, nz]
      clear hcb
      refine wpAnyH_ready (rs := [24]) (by kernel_rfl) (by simp) ?_
      refine AllReadyH.cons rfl (fun K hK => ?_) AllReadyH.nil
      refine step_cells rfl 34 (.tmp 4) (.tmp 28) rfl (w.heap.size + 1) (bs R) rfl rfl 34 _ r1 224 size34 (by rw [bs_size, zs_length]) hRb (bs_one _) (hK.out _ _ ⟨hS.1.other (by omega) _, below_setRow hS.2 (by omega) _⟩ fun hS => ?_)
      try simp only [Act.put, nz]
      have rb := rb.other (g := (w.heap.size + 1)) (by omega) (bs R)
      have r1 := r1.set (bs R)
      generalize w5_23.setRow (w.heap.size + 1) (bs R) = w6_24 at r1 rb hS ⊢
      refine wpAnyH_done (by kernel_rfl) ?_ _
      go_wp2
      refine bodyPost_ret (v := .agg (bs R)) ?_ rfl ⟨rfl, hS.2⟩
      exact ret_row (fn := Try.f55) rfl _ _ (w.heap.size + 1) 34 (bs R) 224 5 rfl r1 Try.underlying34 size34 hRb
    ) (AllReadyH.cons rfl (fun K hK => by
      have ngb := hS.2.size
      have ngbs0 := hS.1.lt
      have ngbr1 := r1.lt
      have rb : Row (w1_6.alloc (.cells #[.int .u8 d.slot] 5)) w1_6.heap.size #[.int .u8 d.slot] 5 := Row.new _ _ _
      have r1 := r1.alloc (.cells #[.int .u8 d.slot] 5)
      go_simp
      refine hK.out _ _ (⟨hS.1.alloc _, hS.2.alloc hS.2.size _⟩) fun hS => ?_
      try simp only [Act.put, nz]
      generalize w1_6.alloc (.cells #[.int .u8 d.slot] 5) = w2_16 at rb r1 hS ⊢
      generalize w1_6.heap.size = gb at rb ngb ngbs0 ngbr1 ⊢
      refine wpAnyH_ready (rs := [11, 17]) (by kernel_rfl) (by simp) ?_
      exact (AllReadyH.cons rfl (fun K hK => by
        go_simp
        go_at_call 87
        refine (P2.out _).mono ?_
        rintro e w3_11 ⟨rfl, hcb⟩
        have r1 := r1.below hcb r1.lt
        have rb := rb.below hcb rb.lt
        refine hK.out _ _ (⟨hS.1.below hcb hS.1.lt, hS.2.trans (hcb.mono hS.2.size)⟩) fun hS => ?_
        try simp only [Act.put, nz]
        clear hcb
        refine tkI (i := 12) (v := .string (strOfNums A3)) rfl (Or.inl ⟨by rfl, fun w _ => by go_simp⟩) hS ?_
        try simp only [Act.put, nz]
        refine wpAnyH_ready (rs := [17]) (by kernel_rfl) (by simp) ?_
        refine AllReadyH.cons rfl (fun K hK => ?_) AllReadyH.nil
        have cc := str_row (ys := [d.slot]) rb 1 1 rfl
        go_simp
        refine hK.out _ _ (hS) fun hS => ?_
        try simp only [Act.put, nz]
        clear cc
        refine tkI (i := 18) (v := .string (strOfNums A4)) rfl (Or.inl ⟨by rfl, fun w _ => by go_simp⟩) hS ?_
        try simp only [Act.put, nz]
        refine tkI (i := 22) (v := .string (strOfNums T)) rfl (Or.inl ⟨by rfl, fun w _ => by go_simp⟩) hS ?_
        try simp only [Act.put, nz]
        refine wpAnyH_ready (rs := [23]) (by kernel_rfl) (by simp) ?_
        refine AllReadyH.cons rfl (fun K hK => ?_) AllReadyH.nil
        go_simp
        go_at_call 85
        refine (HP.out _).mono ?_
        rintro e w5_23 ⟨rfl, hcb⟩
        have r1 := r1.below hcb r1.lt
        have rb := rb.below hcb rb.lt
        refine hK.out _ _ (⟨hS.1.below hcb hS.1.lt, hS.2.trans (hcb.mono hS.2.size)⟩) fun hS => ?_
        try simp only [Act.put, nz]
        clear hcb
        refine wpAnyH_ready (rs := [24]) (by kernel_rfl) (by simp) ?_
        refine AllReadyH.cons rfl (fun K hK => ?_) AllReadyH.nil
        refine step_cells rfl 34 (.tmp 4) (.tmp 28) rfl (w.heap.size + 1) (bs R) rfl rfl 34 _ r1 224 size34 (by rw [bs_size, zs_length]) hRb (bs_one _) (hK.out _ _ ⟨hS.1.other (by omega) _, below_setRow hS.2 (by omega) _⟩ fun hS => ?_)
        try simp only [Act.put, nz]
        have rb := rb.other (g := (w.heap.size + 1)) (by omega) (bs R)
        have r1 := r1.set (bs R)
        generalize w5_23.setRow (w.heap.size + 1) (bs R) = w6_24 at r1 rb hS ⊢
        refine wpAnyH_done (by kernel_rfl) ?_ _
        go_wp2
        refine bodyPost_ret (v := .agg (bs R)) ?_ rfl ⟨rfl, hS.2⟩
        exact ret_row (fn := Try.f55) rfl _ _ (w.heap.size + 1) 34 (bs R) 224 5 rfl r1 Try.underlying34 size34 hRb
      ) (AllReadyH.cons rfl (fun K hK => by
        have cc := str_row (ys := [d.slot]) rb 1 1 rfl
        go_simp
        refine hK.out _ _ (hS) fun hS => ?_
        try simp only [Act.put, nz]
        clear cc
        refine wpAnyH_ready (rs := [11]) (by kernel_rfl) (by simp) ?_
        refine AllReadyH.cons rfl (fun K hK => ?_) AllReadyH.nil
        go_simp
        go_at_call 87
        refine (P2.out _).mono ?_
        rintro e w4_11 ⟨rfl, hcb⟩
        have r1 := r1.below hcb r1.lt
        have rb := rb.below hcb rb.lt
        refine hK.out _ _ (⟨hS.1.below hcb hS.1.lt, hS.2.trans (hcb.mono hS.2.size)⟩) fun hS => ?_
        try simp only [Act.put, nz]
        clear hcb
        refine tkI (i := 12) (v := .string (strOfNums A3)) rfl (Or.inl ⟨by rfl, fun w _ => by go_simp⟩) hS ?_
        try simp only [Act.put, nz]
        refine tkI (i := 18) (v := .string (strOfNums A4)) rfl (Or.inl ⟨by rfl, fun w _ => by go_simp⟩) hS ?_
        try simp only [Act.put, nz]
        refine tkI (i := 22) (v := .string (strOfNums T)) rfl (Or.inl ⟨by rfl, fun w _ => by go_simp⟩) hS ?_
        try simp only [Act.put, nz]
        refine wpAnyH_ready (rs := [23]) (by kernel_rfl) (by simp) ?_
        refine AllReadyH.cons rfl (fun K hK => ?_) AllReadyH.nil
        go_simp
        go_at_call 85
        refine (HP.out _).mono ?_
        rintro e w5_23 ⟨rfl, hcb⟩
        have r1 := r1.below hcb r1.lt
        have rb := rb.below hcb rb.lt
        refine hK.out _ _ (⟨hS.1.below hcb hS.1.lt, hS.2.trans (hcb.mono hS.2.size)⟩) fun hS => ?_
        try simp only [Act.put, nz]
        clear hcb
        refine wpAnyH_ready (rs := [24]) (by kernel_rfl) (by simp) ?_
        refine AllReadyH.cons rfl (fun K hK => ?_) AllReadyH.nil
        refine step_cells rfl 34 (.tmp 4) (.tmp 28) rfl (w.heap.size + 1) (bs R) rfl rfl 34 _ r1 224 size34 (by rw [bs_size, zs_length]) hRb (bs_one _) (hK.out _ _ ⟨hS.1.other (by omega) _, below_setRow hS.2 (by omega) _⟩ fun hS => ?_)
        try simp only [Act.put, nz]
        have rb := rb.other (g := (w.heap.size + 1)) (by omega) (bs R)
        have r1 := r1.set (bs R)
        generalize w5_23.setRow (w.heap.size + 1) (bs R) = w6_24 at r1 rb hS ⊢
        refine wpAnyH_done (by kernel_rfl) ?_ _
        go_wp2
        refine bodyPost_ret (v := .agg (bs R)) ?_ rfl ⟨rfl, hS.2⟩
        exact ret_row (fn := Try.f55) rfl _ _ (w.heap.size + 1) 34 (bs R) 224 5 rfl r1 Try.underlying34 size34 hRb
      ) AllReadyH.nil))
    ) AllReadyH.nil))
  ) (AllReadyH.cons rfl (fun K hK => by
    have ngb := hS.2.size
    have ngbs0 := hS.1.lt
    have ngbr1 := r1.lt
    have rb : Row (wd.alloc (.cells #[.int .u8 d.slot] 5)) wd.heap.size #[.int .u8 d.slot] 5 := Row.new _ _ _
    have r1 := r1.alloc (.cells #[.int .u8 d.slot] 5)
    go_simp
    refine hK.out _ _ (⟨hS.1.alloc _, hS.2.alloc hS.2.size _⟩) fun hS => ?_
    try simp only [Act.put, nz]
    generalize wd.alloc (.cells #[.int .u8 d.slot] 5) = w1_16 at rb r1 hS ⊢
    generalize wd.heap.size = gb at rb ngb ngbs0 ngbr1 ⊢
    refine wpAnyH_ready (rs := [6, 17]) (by kernel_rfl) (by simp) ?_
    exact (AllReadyH.cons rfl (fun K hK => by
      go_simp
      go_at_call 87
      refine (P1.out _).mono ?_
      rintro e w2_6 ⟨rfl, hcb⟩
      have r1 := r1.below hcb r1.lt
      have rb := rb.below hcb rb.lt
      refine hK.out _ _ (⟨hS.1.below hcb hS.1.lt, hS.2.trans (hcb.mono hS.2.size)⟩) fun hS => ?_
      try simp only [Act.put, nz]
      clear hcb
      refine wpAnyH_ready (rs := [11, 17]) (by kernel_rfl) (by simp) ?_
      exact (AllReadyH.cons rfl (fun K hK => by
        go_simp
        go_at_call 87
        refine (P2.out _).mono ?_
        rintro e w3_11 ⟨rfl, hcb⟩
        have r1 := r1.below hcb r1.lt
        have rb := rb.below hcb rb.lt
        refine hK.out _ _ (⟨hS.1.below hcb hS.1.lt, hS.2.trans (hcb.mono hS.2.size)⟩) fun hS => ?_
        try simp only [Act.put, nz]
        clear hcb
        refine tkI (i := 12) (v := .string (strOfNums A3)) rfl (Or.inl ⟨by rfl, fun w _ => by go_simp⟩) hS ?_
        try simp only [Act.put, nz]
        refine wpAnyH_ready (rs := [17]) (by kernel_rfl) (by simp) ?_
        refine AllReadyH.cons rfl (fun K hK => ?_) AllReadyH.nil
        have cc := str_row (ys := [d.slot]) rb 1 1 rfl
        go_simp
        refine hK.out _ _ (hS) fun hS => ?_
        try simp only [Act.put, nz]
        clear cc
        refine tkI (i := 18) (v := .string (strOfNums A4)) rfl (Or.inl ⟨by rfl, fun w _ => by go_simp⟩) hS ?_
        try simp only [Act.put, nz]
        refine tkI (i := 22) (v := .string (strOfNums T)) rfl (Or.inl ⟨by rfl, fun w _ => by go_simp⟩) hS ?_
        try simp only [Act.put, nz]
        refine wpAnyH_ready (rs := [23]) (by kernel_rfl) (by simp) ?_
        refine AllReadyH.cons rfl (fun K hK => ?_) AllReadyH.nil
        go_simp
        go_at_call 85
        refine (HP.out _).mono ?_
        rintro e w5_23 ⟨rfl, hcb⟩
        have r1 := r1.below hcb r1.lt
        have rb := rb.below hcb rb.lt
        refine hK.out _ _ (⟨hS.1.below hcb hS.1.lt, hS.2.trans (hcb.mono hS.2.size)⟩) fun hS => ?_
        try simp only [Act.put, nz]
        clear hcb
        refine wpAnyH_ready (rs := [24]) (by kernel_rfl) (by simp) ?_
        refine AllReadyH.cons rfl (fun K hK => ?_) AllReadyH.nil
        refine step_cells rfl 34 (.tmp 4) (.tmp 28) rfl (w.heap.size + 1) (bs R) rfl rfl 34 _ r1 224 size34 (by rw [bs_size, zs_length]) hRb (bs_one _) (hK.out _ _ ⟨hS.1.other (by omega) _, below_setRow hS.2 (by omega) _⟩ fun hS => ?_)
        try simp only [Act.put, nz]
        have rb := rb.other (g := (w.heap.size + 1)) (by omega) (bs R)
        have r1 := r1.set (bs R)
        generalize w5_23.setRow (w.heap.size + 1) (bs R) = w6_24 at r1 rb hS ⊢
        refine wpAnyH_done (by kernel_rfl) ?_ _
        go_wp2
        refine bodyPost_ret (v := .agg (bs R)) ?_ rfl ⟨rfl, hS.2⟩
        exact ret_row (fn := Try.f55) rfl _ _ (w.heap.size + 1) 34 (bs R) 224 5 rfl r1 Try.underlying34 size34 hRb
      ) (AllReadyH.cons rfl (fun K hK => by
        have cc := str_row (ys := [d.slot]) rb 1 1 rfl
        go_simp
        refine hK.out _ _ (hS) fun hS => ?_
        try simp only [Act.put, nz]
        clear cc
        refine wpAnyH_ready (rs := [11]) (by kernel_rfl) (by simp) ?_
        refine AllReadyH.cons rfl (fun K hK => ?_) AllReadyH.nil
        go_simp
        go_at_call 87
        refine (P2.out _).mono ?_
        rintro e w4_11 ⟨rfl, hcb⟩
        have r1 := r1.below hcb r1.lt
        have rb := rb.below hcb rb.lt
        refine hK.out _ _ (⟨hS.1.below hcb hS.1.lt, hS.2.trans (hcb.mono hS.2.size)⟩) fun hS => ?_
        try simp only [Act.put, nz]
        clear hcb
        refine tkI (i := 12) (v := .string (strOfNums A3)) rfl (Or.inl ⟨by rfl, fun w _ => by go_simp⟩) hS ?_
        try simp only [Act.put, nz]
        refine tkI (i := 18) (v := .string (strOfNums A4)) rfl (Or.inl ⟨by rfl, fun w _ => by go_simp⟩) hS ?_
        try simp only [Act.put, nz]
        refine tkI (i := 22) (v := .string (strOfNums T)) rfl (Or.inl ⟨by rfl, fun w _ => by go_simp⟩) hS ?_
        try simp only [Act.put, nz]
        refine wpAnyH_ready (rs := [23]) (by kernel_rfl) (by simp) ?_
        refine AllReadyH.cons rfl (fun K hK => ?_) AllReadyH.nil
        go_simp
        go_at_call 85
        refine (HP.out _).mono ?_
        rintro e w5_23 ⟨rfl, hcb⟩
        have r1 := r1.below hcb r1.lt
        have rb := rb.below hcb rb.lt
        refine hK.out _ _ (⟨hS.1.below hcb hS.1.lt, hS.2.trans (hcb.mono hS.2.size)⟩) fun hS => ?_
        try simp only [Act.put, nz]
        clear hcb
        refine wpAnyH_ready (rs := [24]) (by kernel_rfl) (by simp) ?_
        refine AllReadyH.cons rfl (fun K hK => ?_) AllReadyH.nil
        refine step_cells rfl 34 (.tmp 4) (.tmp 28) rfl (w.heap.size + 1) (bs R) rfl rfl 34 _ r1 224 size34 (by rw [bs_size, zs_length]) hRb (bs_one _) (hK.out _ _ ⟨hS.1.other (by omega) _, below_setRow hS.2 (by omega) _⟩ fun hS => ?_)
        try simp only [Act.put, nz]
        have rb := rb.other (g := (w.heap.size + 1)) (by omega) (bs R)
        have r1 := r1.set (bs R)
        generalize w5_23.setRow (w.heap.size + 1) (bs R) = w6_24 at r1 rb hS ⊢
        refine wpAnyH_done (by kernel_rfl) ?_ _
        go_wp2
        refine bodyPost_ret (v := .agg (bs R)) ?_ rfl ⟨rfl, hS.2⟩
        exact ret_row (fn := Try.f55) rfl _ _ (w.heap.size + 1) 34 (bs R) 224 5 rfl r1 Try.underlying34 size34 hRb
      ) AllReadyH.nil))
    ) (AllReadyH.cons rfl (fun K hK => by
      have cc := str_row (ys := [d.slot]) rb 1 1 rfl
      go_simp
      refine hK.out _ _ (hS) fun hS => ?_
      try simp only [Act.put, nz]
      clear cc
      refine wpAnyH_ready (rs := [6]) (by kernel_rfl) (by simp) ?_
      refine AllReadyH.cons rfl (fun K hK => ?_) AllReadyH.nil
      go_simp
      go_at_call 87
      refine (P1.out _).mono ?_
      rintro e w3_6 ⟨rfl, hcb⟩
      have r1 := r1.below hcb r1.lt
      have rb := rb.below hcb rb.lt
      refine hK.out _ _ (⟨hS.1.below hcb hS.1.lt, hS.2.trans (hcb.mono hS.2.size)⟩) fun hS => ?_
      try simp only [Act.put, nz]
      clear hcb
      refine wpAnyH_ready (rs := [11]) (by kernel_rfl) (by simp) ?_
      refine AllReadyH.cons rfl (fun K hK => ?_) AllReadyH.nil
      go_simp
      go_at_call 87
      refine (P2.out _).mono ?_
      rintro e w4_11 ⟨rfl, hcb⟩
      have r1 := r1.below hcb r1.lt
      have rb := rb.below hcb rb.lt
      refine hK.out _ _ (⟨hS.1.below hcb hS.1.lt, hS.2.trans (hcb.mono hS.2.size)⟩) fun hS => ?_
      try simp only [Act.put, nz]
      clear hcb
      refine tkI (i := 12) (v := .string (strOfNums A3)) rfl (Or.inl ⟨by rfl, fun w _ => by go_simp⟩) hS ?_
      try simp only [Act.put, nz]
      refine tkI (i := 18) (v := .string (strOfNums A4)) rfl (Or.inl ⟨by rfl, fun w _ => by go_simp⟩) hS ?_
      try simp only [Act.put, nz]
      refine tkI (i := 22) (v := .string (strOfNums T)) rfl (Or.inl ⟨by rfl, fun w _ => by go_simp⟩) hS ?_
      try simp only [Act.put, nz]
      refine wpAnyH_ready (rs := [23]) (by kernel_rfl) (by simp) ?_
      refine AllReadyH.cons rfl (fun K hK => ?_) AllReadyH.nil
      go_simp
      go_at_call 85
      refine (HP.out _).mono ?_
      rintro e w5_23 ⟨rfl, hcb⟩
      have r1 := r1.below hcb r1.lt
      have rb := rb.below hcb rb.lt
      refine hK.out _ _ (⟨hS.1.below hcb hS.1.lt, hS.2.trans (hcb.mono hS.2.size)⟩) fun hS => ?_
      try simp only [Act.put, nz]
      clear hcb
      refine wpAnyH_ready (rs := [24]) (by kernel_rfl) (by simp) ?_
      refine AllReadyH.cons rfl (fun K hK => ?_) AllReadyH.nil
      refine step_cells rfl 34 (.tmp 4) (.tmp 28) rfl (w.heap.size + 1) (bs R) rfl rfl 34 _ r1 224 size34 (by rw [bs_size, zs_length]) hRb (bs_one _) (hK.out _ _ ⟨hS.1.other (by omega) _, below_setRow hS.2 (by omega) _⟩ fun hS => ?_)
      try simp only [Act.put, nz]
      have rb := rb.other (g := (w.heap.size + 1)) (by omega) (bs R)
      have r1 := r1.set (bs R)
      generalize w5_23.setRow (w.heap.size + 1) (bs R) = w6_24 at r1 rb hS ⊢
      refine wpAnyH_done (by kernel_rfl) ?_ _
      go_wp2
      refine bodyPost_ret (v := .agg (bs R)) ?_ rfl ⟨rfl, hS.2⟩
      exact ret_row (fn := Try.f55) rfl _ _ (w.heap.size + 1) 34 (bs R) 224 5 rfl r1 Try.underlying34 size34 hRb
    ) AllReadyH.nil))
  ) AllReadyH.nil))


end Go.Proofs.Ytehogiondcpbcaa
