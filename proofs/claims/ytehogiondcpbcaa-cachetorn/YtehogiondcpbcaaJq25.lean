/-
  Proved here: the document's num, LSN, PutData and GetData (varveref06).
-/
import Derived.Test.YtehogiondcpbcaaJq24
namespace Go.Proofs.Ytehogiondcpbcaa
open Go.ChangeShapes Go.WideShapes Go.ChangeAt Go.RowKit
set_option linter.unusedVariables false
set_option linter.unusedSimpArgs false
set_option maxRecDepth 20000
theorem num_all (p : List Int) (a n : Nat) (w : World) (hp : p.length = 224) (hn : n ≤ 8) (ha : a ≤ 1000000000) :
    Calls Try.prog 93 #[.agg (bs p), .int .i64 a, .int .i64 n] w fun e w' => e = .returned (.int .u64 (getN (strOfNums p) a n)) ∧ Below w.heap.size w w' := by
  have r0 : Row (w.alloc (.cells (bs p) 34)) w.heap.size (bs p) 34 := Row.new _ _ _
  have b0 : Below w.heap.size w (w.alloc (.cells (bs p) 34)) := (Below.refl _ _).alloc (Nat.le_refl _) _
  have cc := str_row r0 224 224 hp
  have HG : Hid _ := rget_all (strOfNums p) a n (by rw [strOfNums_size, hp]; unfold maxLen; omega) hn ha
  generalize getN (strOfNums p) a n = v at HG ⊢
  generalize decide (a + n ≤ (strOfNums p).size) = bb at HG
  clear hp
  go_enter Try.func93, Try.ntmps93
  go_wp2_with (go_at_call 103; refine (HG.out _).mono ?_; clear HG; rintro e w' ⟨rfl, rfl⟩)
  go_ret
  exact ⟨rfl, b0⟩
theorem num_at (p : List Int) (a n : Nat) (v : Int) (hv : getN (strOfNums p) a n = v) (hp : p.length = 224) (hn : n ≤ 8) (ha : a ≤ 1000000000) (w : World) :
    Calls Try.prog 93 #[.agg (bs p), .int .i64 a, .int .i64 n] w fun e w' => e = .returned (.int .u64 v) ∧ Below w.heap.size w w' := by subst hv; exact num_all p a n w hp hn ha
theorem rlsn_any (p : List Int) (w : World) (hp : p.length = 224) :
    Calls Try.prog 92 #[.agg (bs p)] w fun e w' => e = .returned (.int .u64 (getN (strOfNums p) 7 8)) ∧ Below w.heap.size w w' := by
  have r0 : Row (w.alloc (.cells (bs p) 34)) w.heap.size (bs p) 34 := Row.new _ _ _
  have b0 : Below w.heap.size w (w.alloc (.cells (bs p) 34)) := (Below.refl _ _).alloc (Nat.le_refl _) _
  have HN : Hid _ := num_at p 7 8 _ rfl hp (by decide) (by decide)
  generalize getN (strOfNums p) 7 8 = v at HN ⊢
  have hpb : (bs p).size = 224 := by rw [bs_size, hp]
  clear hp
  go_enter Try.func92, Try.ntmps92
  go_wp2_with (first
    | (refine load_row rfl 34 (.tmp 1) rfl w.heap.size rfl 34 (bs p) r0 224 5 Try.underlying34 size34 hpb ?_)
    | (go_at_call 93; refine (HN.out _).mono ?_; clear HN; rintro e w' ⟨rfl, h1⟩))
  go_ret
  exact ⟨rfl, b0.trans (h1.mono b0.size)⟩
set_option maxHeartbeats 2000000 in
theorem rputData_any (no : Int) (d : D) (w : World) (hno : 0 ≤ no ∧ no ≤ 65535) (hd : d.Ok) :
    Calls Try.prog 55 #[.int .u16 no, .agg d.arr] w fun e w' => e = .returned (.agg (bs (putD no d))) ∧ Below w.heap.size w w' := by
  have hz := zero34
  have r0 : Row ((w.alloc (.cells d.arr 109)).alloc (.cells (bs (zs 224)) 34)) w.heap.size d.arr 109 := (Row.new _ _ _).alloc _
  have r1 : Row ((w.alloc (.cells d.arr 109)).alloc (.cells (bs (zs 224)) 34)) (w.heap.size + 1) (bs (zs 224)) 34 := by have := Row.new (w.alloc (.cells d.arr 109)) (bs (zs 224)) 34; simpa using this
  have ab : Below w.heap.size w ((w.alloc (.cells d.arr 109)).alloc (.cells (bs (zs 224)) 34)) := ((Below.refl _ _).alloc (Nat.le_refl _) _).alloc (by simp) _
  have HB : Hid _ := fun (w' : World) (h : Row w' w.heap.size d.arr 109) => D.str h hd.len
  have HA0 : Hid _ := d.at0
  have HA1 : Hid _ := d.at1
  have HA2 : Hid _ := d.at2
  have HA3 : Hid _ := d.at3
  have hlen := putD_length no d hd.len
  obtain ⟨hlsn, hts, hpg, hsl, hbl, hby⟩ := hd
  have HP : Hid _ := fun w => laid_any 1 no d.lsn (dataT d) w (by omega) hno hlsn (by rw [dataT_length d hbl]; omega) (dataT_bytes d hby)
  have P1 : Hid _ := rput_at d.ts 4 _ rfl (by omega) (by omega) (by decide)
  have P2 : Hid _ := rput_at d.page 2 _ rfl (by omega) (by omega) (by decide)
  have e1 : IntKind.u64.wrap d.ts = d.ts := by rw [IntKind.wrap_u64]; omega
  have e2 : IntKind.u64.wrap d.page = d.page := by rw [IntKind.wrap_u64]; omega
  obtain ⟨T, HT⟩ : ∃ A, Hid (dataT d = A) := ⟨_, rfl⟩
  have HT' : Hid (low d.ts 4 ++ low d.page 2 ++ [d.slot] ++ d.body = T) := by
    show _ = _
    rw [← HT.out]; unfold dataT refT; rw [low_one _ hsl]; simp [List.append_assoc]
  obtain ⟨A1, HA1'⟩ : ∃ A, Hid (low d.ts 4 = A) := ⟨_, rfl⟩
  obtain ⟨A2, HA2'⟩ : ∃ A, Hid (low d.page 2 = A) := ⟨_, rfl⟩
  obtain ⟨A3, HA3'⟩ : ∃ A, Hid (A1 ++ A2 = A) := ⟨_, rfl⟩
  obtain ⟨A4, HA4'⟩ : ∃ A, Hid (A3 ++ [d.slot] = A) := ⟨_, rfl⟩
  obtain ⟨R, HR⟩ : ∃ A, Hid (putD no d = A) := ⟨_, rfl⟩
  have HR' : Hid (payT 1 no d.lsn T = R) := by show _ = _; rw [← HR.out, ← HT.out]; rfl
  have hz1 : (strOfNums A1).size = 4 := by rw [strOfNums_size, ← HA1'.out, low_length]
  have hz2 : (strOfNums A2).size = 2 := by rw [strOfNums_size, ← HA2'.out, low_length]
  have ha1 : strOfNums A1 ++ strOfNums A2 = strOfNums A3 := by rw [tx_app, HA3'.out]
  have hz3 : (strOfNums A3).size = 6 := by rw [← ha1, ByteArray.size_append, hz1, hz2]
  have hz4 : (strOfNums [d.slot]).size = 1 := rfl
  have ha2 : strOfNums A3 ++ strOfNums [d.slot] = strOfNums A4 := by rw [tx_app, HA4'.out]
  have hz5 : (strOfNums A4).size = 7 := by rw [← ha2, ByteArray.size_append, hz3, hz4]
  have hz6 : (strOfNums d.body).size = 64 := by rw [strOfNums_size, hbl]
  have ha3 : strOfNums A4 ++ strOfNums d.body = strOfNums T := by rw [tx_app, ← HA4'.out, ← HA3'.out, ← HA1'.out, ← HA2'.out, HT'.out]
  rw [HA1'.out] at P1
  rw [HA2'.out] at P2
  rw [HT.out, HR'.out] at HP
  rw [HR.out] at hlen ⊢
  obtain ⟨X, HX⟩ : ∃ X, Hid (d.arr = X) := ⟨_, rfl⟩
  rw [HX.out] at r0 r1 ab HB HA0 HA1 HA2 HA3 ⊢
  have hRb : (bs R).size = 224 := by rw [bs_size, hlen]
  clear hlen hbl hby
  go_enter Try.func55, Try.ntmps55
  go_upto_region 1 with fail
  generalize (w.alloc (.cells X 109)).alloc (.cells (bs (zs 224)) 34) = w1 at r0 r1 ab ⊢
  refine wp_region_held_drew (S := fun w' => Row w' w.heap.size X 109 ∧ Below w.heap.size w w') (by kernel_rfl) ⟨r0, ab.drew⟩ fun hS => ?_
  have r1 : Row w1.drew (w.heap.size + 1) (bs (zs 224)) 34 := r1
  clear r0 ab
  generalize w1.drew = wd at r1 hS ⊢
  refine tkH (i := 0) (v := .int .u16 no) rfl (by kernel_rfl) (fun _ _ _ h => h) (Or.inl ⟨by rfl, fun w _ => by go_simp⟩) hS ?_
  try simp only [Act.put, nz0, nz1, nz2, nz3, nz4, nz5]
  refine tkH (i := 1) (v := .pointer (some ⟨w.heap.size, 0, none⟩)) rfl (by kernel_rfl) (fun _ _ _ h => h) (Or.inl ⟨by rfl, fun w _ => by go_simp⟩) hS ?_
  try simp only [Act.put, nz0, nz1, nz2, nz3, nz4, nz5]
  refine tkH (i := 2) (v := .int .u64 d.lsn) rfl (by kernel_rfl) (fun _ _ _ h => h) (Or.inl ⟨by rfl, fun w h => by have c := row_at h.1 0 _ HA0.out; go_simp⟩) hS ?_
  try simp only [Act.put, nz0, nz1, nz2, nz3, nz4, nz5]
  refine tkH (i := 3) (v := .pointer (some ⟨w.heap.size, 1, none⟩)) rfl (by kernel_rfl) (fun _ _ _ h => h) (Or.inl ⟨by rfl, fun w _ => by go_simp⟩) hS ?_
  try simp only [Act.put, nz0, nz1, nz2, nz3, nz4, nz5]
  refine tkH (i := 4) (v := .int .u32 d.ts) rfl (by kernel_rfl) (fun _ _ _ h => h) (Or.inl ⟨by rfl, fun w h => by have c := row_at h.1 1 _ HA1.out; go_simp⟩) hS ?_
  try simp only [Act.put, nz0, nz1, nz2, nz3, nz4, nz5]
  refine tkH (i := 5) (v := .int .u64 d.ts) rfl (by kernel_rfl) (fun _ _ _ h => h) (Or.inl ⟨by rfl, fun w _ => by go_simp⟩) hS ?_
  try simp only [Act.put, nz0, nz1, nz2, nz3, nz4, nz5]
  refine tkH (i := 7) (v := .pointer (some ⟨w.heap.size, 2, none⟩)) rfl (by kernel_rfl) (fun _ _ _ h => h) (Or.inl ⟨by rfl, fun w _ => by go_simp⟩) hS ?_
  try simp only [Act.put, nz0, nz1, nz2, nz3, nz4, nz5]
  refine tkH (i := 8) (v := .pointer (some ⟨w.heap.size, 2, none⟩)) rfl (by kernel_rfl) (fun _ _ _ h => h) (Or.inl ⟨by rfl, fun w _ => by go_simp⟩) hS ?_
  try simp only [Act.put, nz0, nz1, nz2, nz3, nz4, nz5]
  refine tkH (i := 9) (v := .int .u16 d.page) rfl (by kernel_rfl) (fun _ _ _ h => h) (Or.inl ⟨by rfl, fun w h => by have c := row_at h.1 2 _ HA2.out; go_simp⟩) hS ?_
  try simp only [Act.put, nz0, nz1, nz2, nz3, nz4, nz5]
  refine tkH (i := 10) (v := .int .u64 d.page) rfl (by kernel_rfl) (fun _ _ _ h => h) (Or.inl ⟨by rfl, fun w _ => by go_simp⟩) hS ?_
  try simp only [Act.put, nz0, nz1, nz2, nz3, nz4, nz5]
  refine tkH (i := 13) (v := .pointer (some ⟨w.heap.size, 2, none⟩)) rfl (by kernel_rfl) (fun _ _ _ h => h) (Or.inl ⟨by rfl, fun w _ => by go_simp⟩) hS ?_
  try simp only [Act.put, nz0, nz1, nz2, nz3, nz4, nz5]
  refine tkH (i := 14) (v := .pointer (some ⟨w.heap.size, 3, none⟩)) rfl (by kernel_rfl) (fun _ _ _ h => h) (Or.inl ⟨by rfl, fun w _ => by go_simp⟩) hS ?_
  try simp only [Act.put, nz0, nz1, nz2, nz3, nz4, nz5]
  refine tkH (i := 15) (v := .int .u8 d.slot) rfl (by kernel_rfl) (fun _ _ _ h => h) (Or.inl ⟨by rfl, fun w h => by have c := row_at h.1 3 _ HA3.out; go_simp⟩) hS ?_
  try simp only [Act.put, nz0, nz1, nz2, nz3, nz4, nz5]
  refine tkH (i := 19) (v := .pointer (some ⟨w.heap.size, 4, none⟩)) rfl (by kernel_rfl) (fun _ _ _ h => h) (Or.inl ⟨by rfl, fun w _ => by go_simp⟩) hS ?_
  try simp only [Act.put, nz0, nz1, nz2, nz3, nz4, nz5]
  refine tkH (i := 20) (v := .slice (some ⟨w.heap.size, 4, none⟩) 64 64) rfl (by kernel_rfl) (fun _ _ _ h => h) (Or.inl ⟨by rfl, fun w _ => by go_simp⟩) hS ?_
  try simp only [Act.put, nz0, nz1, nz2, nz3, nz4, nz5]
  refine tkH (i := 21) (v := .string (strOfNums d.body)) rfl (by kernel_rfl) (fun _ _ _ h => h) (Or.inl ⟨by rfl, fun w h => by have c := HB.out w h.1; go_simp⟩) hS ?_
  try simp only [Act.put, nz0, nz1, nz2, nz3, nz4, nz5]
  refine wpAnyH_ready (rs := [6, 16]) (by kernel_rfl) (by simp) ?_
  exact (AllReadyH.cons rfl (fun K hK => by
    go_simp
    go_at_call 87
    refine (P1.out _).mono ?_
    rintro e w1_6 ⟨rfl, hcb⟩
    have r1 := r1.below hcb r1.lt
    refine hK.out _ _ (⟨hS.1.below hcb hS.1.lt, hS.2.trans (hcb.mono hS.2.size)⟩) fun hS => ?_
    try simp only [Act.put, nz0, nz1, nz2, nz3, nz4, nz5]
    clear hcb
    refine wpAnyH_ready (rs := [11, 16]) (by kernel_rfl) (by simp) ?_
    exact (AllReadyH.cons rfl (fun K hK => by
      go_simp
      go_at_call 87
      refine (P2.out _).mono ?_
      rintro e w2_11 ⟨rfl, hcb⟩
      have r1 := r1.below hcb r1.lt
      refine hK.out _ _ (⟨hS.1.below hcb hS.1.lt, hS.2.trans (hcb.mono hS.2.size)⟩) fun hS => ?_
      try simp only [Act.put, nz0, nz1, nz2, nz3, nz4, nz5]
      clear hcb
      refine tkH (i := 12) (v := .string (strOfNums A3)) rfl (by kernel_rfl) (fun _ _ _ h => h) (Or.inl ⟨by rfl, fun w _ => by go_simp⟩) hS ?_
      try simp only [Act.put, nz0, nz1, nz2, nz3, nz4, nz5]
      refine wpAnyH_ready (rs := [16]) (by kernel_rfl) (by simp) ?_
      refine AllReadyH.cons rfl (fun K hK => ?_) AllReadyH.nil
      have ngb := hS.2.size
      have ngbs0 := hS.1.lt
      have ngbr1 := r1.lt
      have rb : Row (w2_11.alloc (.cells #[.int .u8 d.slot] 5)) w2_11.heap.size #[.int .u8 d.slot] 5 := Row.new _ _ _
      have r1 := r1.alloc (.cells #[.int .u8 d.slot] 5)
      go_simp
      refine hK.out _ _ (⟨hS.1.alloc _, hS.2.alloc hS.2.size _⟩) fun hS => ?_
      try simp only [Act.put, nz0, nz1, nz2, nz3, nz4, nz5]
      generalize w2_11.alloc (.cells #[.int .u8 d.slot] 5) = w3_16 at rb r1 hS ⊢
      generalize w2_11.heap.size = gb at rb ngb ngbs0 ngbr1 ⊢
      refine wpAnyH_ready (rs := [17]) (by kernel_rfl) (by simp) ?_
      refine AllReadyH.cons rfl (fun K hK => ?_) AllReadyH.nil
      have cc := str_row (ys := [d.slot]) rb 1 1 rfl
      go_simp
      refine hK.out _ _ (hS) fun hS => ?_
      try simp only [Act.put, nz0, nz1, nz2, nz3, nz4, nz5]
      clear cc
      refine tkH (i := 18) (v := .string (strOfNums A4)) rfl (by kernel_rfl) (fun _ _ _ h => h) (Or.inl ⟨by rfl, fun w _ => by go_simp⟩) hS ?_
      try simp only [Act.put, nz0, nz1, nz2, nz3, nz4, nz5]
      refine tkH (i := 22) (v := .string (strOfNums T)) rfl (by kernel_rfl) (fun _ _ _ h => h) (Or.inl ⟨by rfl, fun w _ => by go_simp⟩) hS ?_
      try simp only [Act.put, nz0, nz1, nz2, nz3, nz4, nz5]
      refine wpAnyH_ready (rs := [23]) (by kernel_rfl) (by simp) ?_
      refine AllReadyH.cons rfl (fun K hK => ?_) AllReadyH.nil
      go_simp
      go_at_call 85
      refine (HP.out _).mono ?_
      rintro e w5_23 ⟨rfl, hcb⟩
      have r1 := r1.below hcb r1.lt
      have rb := rb.below hcb rb.lt
      refine hK.out _ _ (⟨hS.1.below hcb hS.1.lt, hS.2.trans (hcb.mono hS.2.size)⟩) fun hS => ?_
      try simp only [Act.put, nz0, nz1, nz2, nz3, nz4, nz5]
      clear hcb
      refine wpAnyH_ready (rs := [24]) (by kernel_rfl) (by simp) ?_
      refine AllReadyH.cons rfl (fun K hK => ?_) AllReadyH.nil
      refine step_cells rfl 34 (.tmp 4) (.tmp 28) rfl (w.heap.size + 1) (bs R) rfl rfl 34 _ r1 224 size34 (by rw [bs_size, zs_length]) hRb (bs_one _) (hK.out _ _ ⟨hS.1.other (by omega) _, below_setRow hS.2 (by omega) _⟩ fun hS => ?_)
      try simp only [Act.put, nz0, nz1, nz2, nz3, nz4, nz5]
      have rb := rb.other (g := (w.heap.size + 1)) (by omega) (bs R)
      have r1 := r1.set (bs R)
      generalize w5_23.setRow (w.heap.size + 1) (bs R) = w6_24 at r1 rb hS ⊢
      refine wpAnyH_done (by kernel_rfl) ?_ _
      go_wp2
      refine bodyPost_ret (v := .agg (bs R)) ?_ rfl ⟨rfl, hS.2⟩
      exact ret_row (fn := Try.f55) rfl _ _ (w.heap.size + 1) 34 (bs R) 224 5 rfl r1 Try.underlying34 size34 hRb
    ) (AllReadyH.cons rfl (fun K hK => by
      have ngb := hS.2.size
      have ngbs0 := hS.1.lt
      have ngbr1 := r1.lt
      have rb : Row (w1_6.alloc (.cells #[.int .u8 d.slot] 5)) w1_6.heap.size #[.int .u8 d.slot] 5 := Row.new _ _ _
      have r1 := r1.alloc (.cells #[.int .u8 d.slot] 5)
      go_simp
      refine hK.out _ _ (⟨hS.1.alloc _, hS.2.alloc hS.2.size _⟩) fun hS => ?_
      try simp only [Act.put, nz0, nz1, nz2, nz3, nz4, nz5]
      generalize w1_6.alloc (.cells #[.int .u8 d.slot] 5) = w2_16 at rb r1 hS ⊢
      generalize w1_6.heap.size = gb at rb ngb ngbs0 ngbr1 ⊢
      refine wpAnyH_ready (rs := [11, 17]) (by kernel_rfl) (by simp) ?_
      exact (AllReadyH.cons rfl (fun K hK => by
        go_simp
        go_at_call 87
        refine (P2.out _).mono ?_
        rintro e w3_11 ⟨rfl, hcb⟩
        have r1 := r1.below hcb r1.lt
        have rb := rb.below hcb rb.lt
        refine hK.out _ _ (⟨hS.1.below hcb hS.1.lt, hS.2.trans (hcb.mono hS.2.size)⟩) fun hS => ?_
        try simp only [Act.put, nz0, nz1, nz2, nz3, nz4, nz5]
        clear hcb
        refine tkH (i := 12) (v := .string (strOfNums A3)) rfl (by kernel_rfl) (fun _ _ _ h => h) (Or.inl ⟨by rfl, fun w _ => by go_simp⟩) hS ?_
        try simp only [Act.put, nz0, nz1, nz2, nz3, nz4, nz5]
        refine wpAnyH_ready (rs := [17]) (by kernel_rfl) (by simp) ?_
        refine AllReadyH.cons rfl (fun K hK => ?_) AllReadyH.nil
        have cc := str_row (ys := [d.slot]) rb 1 1 rfl
        go_simp
        refine hK.out _ _ (hS) fun hS => ?_
        try simp only [Act.put, nz0, nz1, nz2, nz3, nz4, nz5]
        clear cc
        refine tkH (i := 18) (v := .string (strOfNums A4)) rfl (by kernel_rfl) (fun _ _ _ h => h) (Or.inl ⟨by rfl, fun w _ => by go_simp⟩) hS ?_
        try simp only [Act.put, nz0, nz1, nz2, nz3, nz4, nz5]
        refine tkH (i := 22) (v := .string (strOfNums T)) rfl (by kernel_rfl) (fun _ _ _ h => h) (Or.inl ⟨by rfl, fun w _ => by go_simp⟩) hS ?_
        try simp only [Act.put, nz0, nz1, nz2, nz3, nz4, nz5]
        refine wpAnyH_ready (rs := [23]) (by kernel_rfl) (by simp) ?_
        refine AllReadyH.cons rfl (fun K hK => ?_) AllReadyH.nil
        go_simp
        go_at_call 85
        refine (HP.out _).mono ?_
        rintro e w5_23 ⟨rfl, hcb⟩
        have r1 := r1.below hcb r1.lt
        have rb := rb.below hcb rb.lt
        refine hK.out _ _ (⟨hS.1.below hcb hS.1.lt, hS.2.trans (hcb.mono hS.2.size)⟩) fun hS => ?_
        try simp only [Act.put, nz0, nz1, nz2, nz3, nz4, nz5]
        clear hcb
        refine wpAnyH_ready (rs := [24]) (by kernel_rfl) (by simp) ?_
        refine AllReadyH.cons rfl (fun K hK => ?_) AllReadyH.nil
        refine step_cells rfl 34 (.tmp 4) (.tmp 28) rfl (w.heap.size + 1) (bs R) rfl rfl 34 _ r1 224 size34 (by rw [bs_size, zs_length]) hRb (bs_one _) (hK.out _ _ ⟨hS.1.other (by omega) _, below_setRow hS.2 (by omega) _⟩ fun hS => ?_)
        try simp only [Act.put, nz0, nz1, nz2, nz3, nz4, nz5]
        have rb := rb.other (g := (w.heap.size + 1)) (by omega) (bs R)
        have r1 := r1.set (bs R)
        generalize w5_23.setRow (w.heap.size + 1) (bs R) = w6_24 at r1 rb hS ⊢
        refine wpAnyH_done (by kernel_rfl) ?_ _
        go_wp2
        refine bodyPost_ret (v := .agg (bs R)) ?_ rfl ⟨rfl, hS.2⟩
        exact ret_row (fn := Try.f55) rfl _ _ (w.heap.size + 1) 34 (bs R) 224 5 rfl r1 Try.underlying34 size34 hRb
      ) (AllReadyH.cons rfl (fun K hK => by
        have cc := str_row (ys := [d.slot]) rb 1 1 rfl
        go_simp
        refine hK.out _ _ (hS) fun hS => ?_
        try simp only [Act.put, nz0, nz1, nz2, nz3, nz4, nz5]
        clear cc
        refine wpAnyH_ready (rs := [11]) (by kernel_rfl) (by simp) ?_
        refine AllReadyH.cons rfl (fun K hK => ?_) AllReadyH.nil
        go_simp
        go_at_call 87
        refine (P2.out _).mono ?_
        rintro e w4_11 ⟨rfl, hcb⟩
        have r1 := r1.below hcb r1.lt
        have rb := rb.below hcb rb.lt
        refine hK.out _ _ (⟨hS.1.below hcb hS.1.lt, hS.2.trans (hcb.mono hS.2.size)⟩) fun hS => ?_
        try simp only [Act.put, nz0, nz1, nz2, nz3, nz4, nz5]
        clear hcb
        refine tkH (i := 12) (v := .string (strOfNums A3)) rfl (by kernel_rfl) (fun _ _ _ h => h) (Or.inl ⟨by rfl, fun w _ => by go_simp⟩) hS ?_
        try simp only [Act.put, nz0, nz1, nz2, nz3, nz4, nz5]
        refine tkH (i := 18) (v := .string (strOfNums A4)) rfl (by kernel_rfl) (fun _ _ _ h => h) (Or.inl ⟨by rfl, fun w _ => by go_simp⟩) hS ?_
        try simp only [Act.put, nz0, nz1, nz2, nz3, nz4, nz5]
        refine tkH (i := 22) (v := .string (strOfNums T)) rfl (by kernel_rfl) (fun _ _ _ h => h) (Or.inl ⟨by rfl, fun w _ => by go_simp⟩) hS ?_
        try simp only [Act.put, nz0, nz1, nz2, nz3, nz4, nz5]
        refine wpAnyH_ready (rs := [23]) (by kernel_rfl) (by simp) ?_
        refine AllReadyH.cons rfl (fun K hK => ?_) AllReadyH.nil
        go_simp
        go_at_call 85
        refine (HP.out _).mono ?_
        rintro e w5_23 ⟨rfl, hcb⟩
        have r1 := r1.below hcb r1.lt
        have rb := rb.below hcb rb.lt
        refine hK.out _ _ (⟨hS.1.below hcb hS.1.lt, hS.2.trans (hcb.mono hS.2.size)⟩) fun hS => ?_
        try simp only [Act.put, nz0, nz1, nz2, nz3, nz4, nz5]
        clear hcb
        refine wpAnyH_ready (rs := [24]) (by kernel_rfl) (by simp) ?_
        refine AllReadyH.cons rfl (fun K hK => ?_) AllReadyH.nil
        refine step_cells rfl 34 (.tmp 4) (.tmp 28) rfl (w.heap.size + 1) (bs R) rfl rfl 34 _ r1 224 size34 (by rw [bs_size, zs_length]) hRb (bs_one _) (hK.out _ _ ⟨hS.1.other (by omega) _, below_setRow hS.2 (by omega) _⟩ fun hS => ?_)
        try simp only [Act.put, nz0, nz1, nz2, nz3, nz4, nz5]
        have rb := rb.other (g := (w.heap.size + 1)) (by omega) (bs R)
        have r1 := r1.set (bs R)
        generalize w5_23.setRow (w.heap.size + 1) (bs R) = w6_24 at r1 rb hS ⊢
        refine wpAnyH_done (by kernel_rfl) ?_ _
        go_wp2
        refine bodyPost_ret (v := .agg (bs R)) ?_ rfl ⟨rfl, hS.2⟩
        exact ret_row (fn := Try.f55) rfl _ _ (w.heap.size + 1) 34 (bs R) 224 5 rfl r1 Try.underlying34 size34 hRb
      ) AllReadyH.nil))
    ) AllReadyH.nil))
  ) (AllReadyH.cons rfl (fun K hK => by
    have ngb := hS.2.size
    have ngbs0 := hS.1.lt
    have ngbr1 := r1.lt
    have rb : Row (wd.alloc (.cells #[.int .u8 d.slot] 5)) wd.heap.size #[.int .u8 d.slot] 5 := Row.new _ _ _
    have r1 := r1.alloc (.cells #[.int .u8 d.slot] 5)
    go_simp
    refine hK.out _ _ (⟨hS.1.alloc _, hS.2.alloc hS.2.size _⟩) fun hS => ?_
    try simp only [Act.put, nz0, nz1, nz2, nz3, nz4, nz5]
    generalize wd.alloc (.cells #[.int .u8 d.slot] 5) = w1_16 at rb r1 hS ⊢
    generalize wd.heap.size = gb at rb ngb ngbs0 ngbr1 ⊢
    refine wpAnyH_ready (rs := [6, 17]) (by kernel_rfl) (by simp) ?_
    exact (AllReadyH.cons rfl (fun K hK => by
      go_simp
      go_at_call 87
      refine (P1.out _).mono ?_
      rintro e w2_6 ⟨rfl, hcb⟩
      have r1 := r1.below hcb r1.lt
      have rb := rb.below hcb rb.lt
      refine hK.out _ _ (⟨hS.1.below hcb hS.1.lt, hS.2.trans (hcb.mono hS.2.size)⟩) fun hS => ?_
      try simp only [Act.put, nz0, nz1, nz2, nz3, nz4, nz5]
      clear hcb
      refine wpAnyH_ready (rs := [11, 17]) (by kernel_rfl) (by simp) ?_
      exact (AllReadyH.cons rfl (fun K hK => by
        go_simp
        go_at_call 87
        refine (P2.out _).mono ?_
        rintro e w3_11 ⟨rfl, hcb⟩
        have r1 := r1.below hcb r1.lt
        have rb := rb.below hcb rb.lt
        refine hK.out _ _ (⟨hS.1.below hcb hS.1.lt, hS.2.trans (hcb.mono hS.2.size)⟩) fun hS => ?_
        try simp only [Act.put, nz0, nz1, nz2, nz3, nz4, nz5]
        clear hcb
        refine tkH (i := 12) (v := .string (strOfNums A3)) rfl (by kernel_rfl) (fun _ _ _ h => h) (Or.inl ⟨by rfl, fun w _ => by go_simp⟩) hS ?_
        try simp only [Act.put, nz0, nz1, nz2, nz3, nz4, nz5]
        refine wpAnyH_ready (rs := [17]) (by kernel_rfl) (by simp) ?_
        refine AllReadyH.cons rfl (fun K hK => ?_) AllReadyH.nil
        have cc := str_row (ys := [d.slot]) rb 1 1 rfl
        go_simp
        refine hK.out _ _ (hS) fun hS => ?_
        try simp only [Act.put, nz0, nz1, nz2, nz3, nz4, nz5]
        clear cc
        refine tkH (i := 18) (v := .string (strOfNums A4)) rfl (by kernel_rfl) (fun _ _ _ h => h) (Or.inl ⟨by rfl, fun w _ => by go_simp⟩) hS ?_
        try simp only [Act.put, nz0, nz1, nz2, nz3, nz4, nz5]
        refine tkH (i := 22) (v := .string (strOfNums T)) rfl (by kernel_rfl) (fun _ _ _ h => h) (Or.inl ⟨by rfl, fun w _ => by go_simp⟩) hS ?_
        try simp only [Act.put, nz0, nz1, nz2, nz3, nz4, nz5]
        refine wpAnyH_ready (rs := [23]) (by kernel_rfl) (by simp) ?_
        refine AllReadyH.cons rfl (fun K hK => ?_) AllReadyH.nil
        go_simp
        go_at_call 85
        refine (HP.out _).mono ?_
        rintro e w5_23 ⟨rfl, hcb⟩
        have r1 := r1.below hcb r1.lt
        have rb := rb.below hcb rb.lt
        refine hK.out _ _ (⟨hS.1.below hcb hS.1.lt, hS.2.trans (hcb.mono hS.2.size)⟩) fun hS => ?_
        try simp only [Act.put, nz0, nz1, nz2, nz3, nz4, nz5]
        clear hcb
        refine wpAnyH_ready (rs := [24]) (by kernel_rfl) (by simp) ?_
        refine AllReadyH.cons rfl (fun K hK => ?_) AllReadyH.nil
        refine step_cells rfl 34 (.tmp 4) (.tmp 28) rfl (w.heap.size + 1) (bs R) rfl rfl 34 _ r1 224 size34 (by rw [bs_size, zs_length]) hRb (bs_one _) (hK.out _ _ ⟨hS.1.other (by omega) _, below_setRow hS.2 (by omega) _⟩ fun hS => ?_)
        try simp only [Act.put, nz0, nz1, nz2, nz3, nz4, nz5]
        have rb := rb.other (g := (w.heap.size + 1)) (by omega) (bs R)
        have r1 := r1.set (bs R)
        generalize w5_23.setRow (w.heap.size + 1) (bs R) = w6_24 at r1 rb hS ⊢
        refine wpAnyH_done (by kernel_rfl) ?_ _
        go_wp2
        refine bodyPost_ret (v := .agg (bs R)) ?_ rfl ⟨rfl, hS.2⟩
        exact ret_row (fn := Try.f55) rfl _ _ (w.heap.size + 1) 34 (bs R) 224 5 rfl r1 Try.underlying34 size34 hRb
      ) (AllReadyH.cons rfl (fun K hK => by
        have cc := str_row (ys := [d.slot]) rb 1 1 rfl
        go_simp
        refine hK.out _ _ (hS) fun hS => ?_
        try simp only [Act.put, nz0, nz1, nz2, nz3, nz4, nz5]
        clear cc
        refine wpAnyH_ready (rs := [11]) (by kernel_rfl) (by simp) ?_
        refine AllReadyH.cons rfl (fun K hK => ?_) AllReadyH.nil
        go_simp
        go_at_call 87
        refine (P2.out _).mono ?_
        rintro e w4_11 ⟨rfl, hcb⟩
        have r1 := r1.below hcb r1.lt
        have rb := rb.below hcb rb.lt
        refine hK.out _ _ (⟨hS.1.below hcb hS.1.lt, hS.2.trans (hcb.mono hS.2.size)⟩) fun hS => ?_
        try simp only [Act.put, nz0, nz1, nz2, nz3, nz4, nz5]
        clear hcb
        refine tkH (i := 12) (v := .string (strOfNums A3)) rfl (by kernel_rfl) (fun _ _ _ h => h) (Or.inl ⟨by rfl, fun w _ => by go_simp⟩) hS ?_
        try simp only [Act.put, nz0, nz1, nz2, nz3, nz4, nz5]
        refine tkH (i := 18) (v := .string (strOfNums A4)) rfl (by kernel_rfl) (fun _ _ _ h => h) (Or.inl ⟨by rfl, fun w _ => by go_simp⟩) hS ?_
        try simp only [Act.put, nz0, nz1, nz2, nz3, nz4, nz5]
        refine tkH (i := 22) (v := .string (strOfNums T)) rfl (by kernel_rfl) (fun _ _ _ h => h) (Or.inl ⟨by rfl, fun w _ => by go_simp⟩) hS ?_
        try simp only [Act.put, nz0, nz1, nz2, nz3, nz4, nz5]
        refine wpAnyH_ready (rs := [23]) (by kernel_rfl) (by simp) ?_
        refine AllReadyH.cons rfl (fun K hK => ?_) AllReadyH.nil
        go_simp
        go_at_call 85
        refine (HP.out _).mono ?_
        rintro e w5_23 ⟨rfl, hcb⟩
        have r1 := r1.below hcb r1.lt
        have rb := rb.below hcb rb.lt
        refine hK.out _ _ (⟨hS.1.below hcb hS.1.lt, hS.2.trans (hcb.mono hS.2.size)⟩) fun hS => ?_
        try simp only [Act.put, nz0, nz1, nz2, nz3, nz4, nz5]
        clear hcb
        refine wpAnyH_ready (rs := [24]) (by kernel_rfl) (by simp) ?_
        refine AllReadyH.cons rfl (fun K hK => ?_) AllReadyH.nil
        refine step_cells rfl 34 (.tmp 4) (.tmp 28) rfl (w.heap.size + 1) (bs R) rfl rfl 34 _ r1 224 size34 (by rw [bs_size, zs_length]) hRb (bs_one _) (hK.out _ _ ⟨hS.1.other (by omega) _, below_setRow hS.2 (by omega) _⟩ fun hS => ?_)
        try simp only [Act.put, nz0, nz1, nz2, nz3, nz4, nz5]
        have rb := rb.other (g := (w.heap.size + 1)) (by omega) (bs R)
        have r1 := r1.set (bs R)
        generalize w5_23.setRow (w.heap.size + 1) (bs R) = w6_24 at r1 rb hS ⊢
        refine wpAnyH_done (by kernel_rfl) ?_ _
        go_wp2
        refine bodyPost_ret (v := .agg (bs R)) ?_ rfl ⟨rfl, hS.2⟩
        exact ret_row (fn := Try.f55) rfl _ _ (w.heap.size + 1) 34 (bs R) 224 5 rfl r1 Try.underlying34 size34 hRb
      ) AllReadyH.nil))
    ) (AllReadyH.cons rfl (fun K hK => by
      have cc := str_row (ys := [d.slot]) rb 1 1 rfl
      go_simp
      refine hK.out _ _ (hS) fun hS => ?_
      try simp only [Act.put, nz0, nz1, nz2, nz3, nz4, nz5]
      clear cc
      refine wpAnyH_ready (rs := [6]) (by kernel_rfl) (by simp) ?_
      refine AllReadyH.cons rfl (fun K hK => ?_) AllReadyH.nil
      go_simp
      go_at_call 87
      refine (P1.out _).mono ?_
      rintro e w3_6 ⟨rfl, hcb⟩
      have r1 := r1.below hcb r1.lt
      have rb := rb.below hcb rb.lt
      refine hK.out _ _ (⟨hS.1.below hcb hS.1.lt, hS.2.trans (hcb.mono hS.2.size)⟩) fun hS => ?_
      try simp only [Act.put, nz0, nz1, nz2, nz3, nz4, nz5]
      clear hcb
      refine wpAnyH_ready (rs := [11]) (by kernel_rfl) (by simp) ?_
      refine AllReadyH.cons rfl (fun K hK => ?_) AllReadyH.nil
      go_simp
      go_at_call 87
      refine (P2.out _).mono ?_
      rintro e w4_11 ⟨rfl, hcb⟩
      have r1 := r1.below hcb r1.lt
      have rb := rb.below hcb rb.lt
      refine hK.out _ _ (⟨hS.1.below hcb hS.1.lt, hS.2.trans (hcb.mono hS.2.size)⟩) fun hS => ?_
      try simp only [Act.put, nz0, nz1, nz2, nz3, nz4, nz5]
      clear hcb
      refine tkH (i := 12) (v := .string (strOfNums A3)) rfl (by kernel_rfl) (fun _ _ _ h => h) (Or.inl ⟨by rfl, fun w _ => by go_simp⟩) hS ?_
      try simp only [Act.put, nz0, nz1, nz2, nz3, nz4, nz5]
      refine tkH (i := 18) (v := .string (strOfNums A4)) rfl (by kernel_rfl) (fun _ _ _ h => h) (Or.inl ⟨by rfl, fun w _ => by go_simp⟩) hS ?_
      try simp only [Act.put, nz0, nz1, nz2, nz3, nz4, nz5]
      refine tkH (i := 22) (v := .string (strOfNums T)) rfl (by kernel_rfl) (fun _ _ _ h => h) (Or.inl ⟨by rfl, fun w _ => by go_simp⟩) hS ?_
      try simp only [Act.put, nz0, nz1, nz2, nz3, nz4, nz5]
      refine wpAnyH_ready (rs := [23]) (by kernel_rfl) (by simp) ?_
      refine AllReadyH.cons rfl (fun K hK => ?_) AllReadyH.nil
      go_simp
      go_at_call 85
      refine (HP.out _).mono ?_
      rintro e w5_23 ⟨rfl, hcb⟩
      have r1 := r1.below hcb r1.lt
      have rb := rb.below hcb rb.lt
      refine hK.out _ _ (⟨hS.1.below hcb hS.1.lt, hS.2.trans (hcb.mono hS.2.size)⟩) fun hS => ?_
      try simp only [Act.put, nz0, nz1, nz2, nz3, nz4, nz5]
      clear hcb
      refine wpAnyH_ready (rs := [24]) (by kernel_rfl) (by simp) ?_
      refine AllReadyH.cons rfl (fun K hK => ?_) AllReadyH.nil
      refine step_cells rfl 34 (.tmp 4) (.tmp 28) rfl (w.heap.size + 1) (bs R) rfl rfl 34 _ r1 224 size34 (by rw [bs_size, zs_length]) hRb (bs_one _) (hK.out _ _ ⟨hS.1.other (by omega) _, below_setRow hS.2 (by omega) _⟩ fun hS => ?_)
      try simp only [Act.put, nz0, nz1, nz2, nz3, nz4, nz5]
      have rb := rb.other (g := (w.heap.size + 1)) (by omega) (bs R)
      have r1 := r1.set (bs R)
      generalize w5_23.setRow (w.heap.size + 1) (bs R) = w6_24 at r1 rb hS ⊢
      refine wpAnyH_done (by kernel_rfl) ?_ _
      go_wp2
      refine bodyPost_ret (v := .agg (bs R)) ?_ rfl ⟨rfl, hS.2⟩
      exact ret_row (fn := Try.f55) rfl _ _ (w.heap.size + 1) 34 (bs R) 224 5 rfl r1 Try.underlying34 size34 hRb
    ) AllReadyH.nil))
  ) AllReadyH.nil))
end Go.Proofs.Ytehogiondcpbcaa
