/-
  Proved here: the document's text, Size and May of undo pages (varveref06).
-/
import Derived.Test.YtehogiondcpbcaaJq24
import Derived.Test.YtehogiondcpbcaaJq22
namespace Go.Proofs.Ytehogiondcpbcaa
open Go.ChangeShapes Go.WideShapes Go.ChangeAt Go.RowKit
set_option linter.unusedVariables false
set_option linter.unusedSimpArgs false
set_option maxRecDepth 20000
theorem oldT_live (o : O) (h : o.live = true) : oldT o = [1] ++ low o.page 2 ++ low o.ts 4 ++ low o.np 2 ++ [o.ns % 256, (o.delta.size : Int) % 256] ++ nums o.delta := by
  have e1 : low 1 1 = [1] := by decide
  have e2 : low o.ns 1 = [o.ns % 256] := by simp [low]
  have e3 : low o.delta.size 1 = [(o.delta.size : Int) % 256] := by simp [low]
  unfold oldT liveT refT
  rw [if_pos h, e1, e2, e3]
  simp [List.append_assoc]
theorem oldsT_len (os : List O) (B : Nat) (h : ∀ o ∈ os, o.delta.size ≤ B) : ∀ k, (oldsT (os.take k)).length ≤ k * (11 + B)
  | 0 => by simp [oldsT]
  | k + 1 => by
    have ih := oldsT_len os B h k
    cases he : os[k]? with
    | none =>
      have hl : os.length ≤ k := by simpa using he
      have e1 : os.take (k + 1) = os.take k := by rw [List.take_of_length_le (by omega), List.take_of_length_le hl]
      rw [e1, Nat.succ_mul]; omega
    | some o =>
      have hm := h o (List.mem_of_getElem? he)
      have hol := oldT_length o
      rw [oldsT_snoc os k o he, List.length_append, Nat.succ_mul]
      cases hlv : o.live <;> simp [hlv] at hol <;> omega
set_option maxHeartbeats 4000000 in
theorem text_any (lsn : Int) (v : Value) (os : List O) (w : World) (ho : Olds w v os) (hf : ∀ o ∈ os, o.Fits) (hn : os.length ≤ 1000) (hd : ∀ o ∈ os, o.delta.size ≤ 140737488355328) :
    Calls Try.prog 86 #[.agg #[.int .u64 lsn, v]] w fun e w' => e = .returned (.string (strOfNums ([(os.length : Int) % 256] ++ oldsT os))) ∧ Below w.heap.size w w' := by
  obtain ⟨oa, cap, rfl, hcs⟩ := ho.hold
  have HCS : Hid _ := hcs
  have HLE : Hid _ := oldsT_len os 140737488355328 hd
  have HD : Hid _ := hd
  clear hcs ho hd
  obtain ⟨n, HN⟩ : ∃ n, Hid (os.length = n) := ⟨_, rfl⟩
  rw [HN.out] at HCS hn ⊢
  have r0 : Row (w.alloc (.cells #[.int .u64 lsn, .slice oa n cap] 103)) w.heap.size #[.int .u64 lsn, .slice oa n cap] 103 := Row.new _ _ _
  have ab : Below w.heap.size w (w.alloc (.cells #[.int .u64 lsn, .slice oa n cap] 103)) := (Below.refl _ _).alloc (Nat.le_refl _) _
  have hz := zero130
  have e0 : IntKind.u8.wrap (n : Int) = (n : Int) % 256 := by rw [IntKind.wrap_u8]
  obtain ⟨m, HM⟩ : ∃ m, Hid ((n : Int) % 256 = m) := ⟨_, rfl⟩
  have hm : 0 ≤ m ∧ m ≤ 255 := by rw [← HM.out]; omega
  rw [HM.out] at e0 ⊢
  have e0' : (n : Int) % 256 = m := HM.out
  have r1 : Row ((w.alloc (.cells #[.int .u64 lsn, .slice oa n cap] 103)).alloc (.cells #[.int .u8 m] 5)) (w.heap.size + 1) #[.int .u8 m] 5 := by have := Row.new (w.alloc (.cells #[.int .u64 lsn, .slice oa n cap] 103)) #[.int .u8 m] 5; simpa using this
  have hs1 := str_row (ys := [m]) r1 1 1 rfl
  have r0' := r0.alloc (.cells #[.int .u8 m] 5)
  have ab' := ab.alloc ab.size (.cells #[.int .u8 m] 5)
  have c0 := row_at r0 1 _ rfl
  go_enter Try.func86, Try.ntmps86
  go_upto_region 1 with fail
  go_upto_region 2 with fail
  clear hs1 r1 c0
  generalize (w.alloc (.cells #[.int .u64 lsn, .slice oa n cap] 103)).alloc (.cells #[.int .u8 m] 5) = w1 at r0' ab' ⊢
  have c1 := row_at r0' 1 _ rfl
  have HT0 : Hid (strOfNums ([m] ++ oldsT (os.take 0)) = strOfNums [m]) := by show _ = _; simp [oldsT]
  clear r0 ab
  go_wp2
  go_loopw [3, 15] (fun t i wr => ∃ k : Nat, k ≤ n ∧ i = .int .i64 k ∧ t = .string (strOfNums ([m] ++ oldsT (os.take k))) ∧ Row wr w.heap.size #[.int .u64 lsn, .slice oa n cap] 103 ∧ Below w.heap.size w wr) (fun _ i _ => n - (intOf i).toNat)
  case atStart => exact ⟨0, by omega, rfl, by rw [HT0.out], r0', ab'⟩
  case round =>
    clear r0' ab' c1 HT0
    obtain ⟨k, hk, rfl, rfl, r0, rb⟩ := hrel
    by_cases hkn : k < n
    · obtain ⟨a, l, p, t, np, ns, dl, rfl, he, hcell⟩ := HCS.out k hkn
      have hcw : ∀ j u, [Value.bool l, .int .u16 p, .int .u32 t, .int .u16 np, .int .u8 ns, .string dl][j]? = some u → wr.cell? ((a.add (k * 6)).add j) = some u := fun j u hj => cell_keep (hcell j u hj) rb
      have hmem : (⟨l, p, t, np, ns, dl⟩ : O) ∈ os := List.mem_of_getElem? he
      have hdz : dl.size ≤ 140737488355328 := HD.out _ hmem
      obtain ⟨f1, f2, f3, f4⟩ := hf _ hmem
      simp only at f1 f2 f3 f4
      have HS := show Hid _ from oldsT_snoc os k _ he
      have hle : (oldsT (os.take k)).length ≤ 1000 * (11 + 140737488355328) := Nat.le_trans (HLE.out k) (Nat.mul_le_mul_right _ (by omega))
      obtain ⟨Y, HY⟩ : ∃ X, Hid ([m] ++ oldsT (os.take k) = X) := ⟨_, rfl⟩
      obtain ⟨Y', HY'⟩ : ∃ X, Hid ([m] ++ oldsT (os.take (k + 1)) = X) := ⟨_, rfl⟩
      have HYY : Hid (Y' = Y ++ oldT ⟨l, p, t, np, ns, dl⟩) := by show _ = _; rw [← HY'.out, HS.out, ← HY.out, List.append_assoc]
      have hzY : (strOfNums Y).size ≤ 1000 * (11 + 140737488355328) + 1 := by rw [strOfNums_size, ← HY.out, List.length_append]; simp; omega
      rw [HY.out]
      clear he hcell hmem HS hle
      have tl : Hid (1 = 1) := rfl
      have hkn' : (k : Int) < (n : Int) := by omega
      have q1 : Row (wr.alloc (.cells #[.bool false, .int .u16 0, .int .u32 0, .int .u16 0, .int .u8 0, .string ByteArray.empty] 130)) wr.heap.size #[.bool false, .int .u16 0, .int .u32 0, .int .u16 0, .int .u8 0, .string ByteArray.empty] 130 := Row.new _ _ _
      go_upto_region 5 with (first
        | (have hh := tl; clear hh tl; refine wpList_load_any rfl 130 (.tmp 17) rfl (a.add (k * 6)) rfl [.bool l, .int .u16 p, .int .u32 t, .int .u16 np, .int .u8 ns, .string dl] _ hcw Try.underlying130 rfl size130 ?_)
        | (refine store_cells rfl 130 (.tmp 5) (.tmp 18) rfl wr.heap.size #[.bool l, .int .u16 p, .int .u32 t, .int .u16 np, .int .u8 ns, .string dl] rfl rfl 130 _ q1 6 size130 rfl rfl (by simp [Value.oneCell']) ?_))
      have q2 := q1.set #[.bool l, .int .u16 p, .int .u32 t, .int .u16 np, .int .u8 ns, .string dl]
      have hlt := r0.lt
      have d0 := (r0.alloc (.cells #[.bool false, .int .u16 0, .int .u32 0, .int .u16 0, .int .u8 0, .string ByteArray.empty] 130)).other (g := wr.heap.size) (by omega) #[.bool l, .int .u16 p, .int .u32 t, .int .u16 np, .int .u8 ns, .string dl]
      have db := below_setRow (rb.alloc rb.size (.cells #[.bool false, .int .u16 0, .int .u32 0, .int .u16 0, .int .u8 0, .string ByteArray.empty] 130)) rb.size #[.bool l, .int .u16 p, .int .u32 t, .int .u16 np, .int .u8 ns, .string dl]
      clear r0 rb q1 hcw
      generalize (wr.alloc (.cells #[.bool false, .int .u16 0, .int .u32 0, .int .u16 0, .int .u8 0, .string ByteArray.empty] 130)).setRow wr.heap.size #[.bool l, .int .u16 p, .int .u32 t, .int .u16 np, .int .u8 ns, .string dl] = w5 at q2 d0 db ⊢
      generalize wr.heap.size = go at q2 hlt ⊢
      cases l
      · have hYY : strOfNums Y ++ { data := #[0] } = strOfNums Y' := by
          have : ({ data := #[0] } : ByteArray) = strOfNums [0] := rfl
          rw [this, tx_app, HYY.out]; rfl
        have c0 := row_at q2 0 _ rfl
        go_wp2
        go_roundw
        case rel => exact ⟨k + 1, by omega, by go_num, by rw [HY'.out], d0, db⟩
        case measure => simp [intOf]; omega
      · have c0 := row_at q2 0 _ rfl
        go_upto_region 6 with fail
        clear c0
        have HT : Hid _ := oldT_live ⟨true, p, t, np, ns, dl⟩ rfl
        simp only at HT
        obtain ⟨A1, HA1⟩ : ∃ A, Hid (low p 2 = A) := ⟨_, rfl⟩
        obtain ⟨A2, HA2⟩ : ∃ A, Hid (low t 4 = A) := ⟨_, rfl⟩
        obtain ⟨A3, HA3⟩ : ∃ A, Hid (low np 2 = A) := ⟨_, rfl⟩
        obtain ⟨z, HZ⟩ : ∃ A, Hid ((dl.size : Int) % 256 = A) := ⟨_, rfl⟩
        have en : ns % 256 = ns := by omega
        rw [HA1.out, HA2.out, HA3.out, HZ.out, en] at HT
        obtain ⟨B1, HB1⟩ : ∃ A, Hid ([(1 : Int)] ++ A1 = A) := ⟨_, rfl⟩
        obtain ⟨B2, HB2⟩ : ∃ A, Hid (B1 ++ A2 = A) := ⟨_, rfl⟩
        obtain ⟨B3, HB3⟩ : ∃ A, Hid (B2 ++ A3 = A) := ⟨_, rfl⟩
        obtain ⟨B4, HB4⟩ : ∃ A, Hid (B3 ++ [ns, z] = A) := ⟨_, rfl⟩
        obtain ⟨B5, HB5⟩ : ∃ A, Hid (B4 ++ nums dl = A) := ⟨_, rfl⟩
        rw [HB1.out, HB2.out, HB3.out, HB4.out, HB5.out] at HT
        have P1 : Hid _ := rput_at p 2 A1 HA1.out (by omega) (by omega) (by decide)
        have P2 : Hid _ := rput_at t 4 A2 HA2.out (by omega) (by omega) (by decide)
        have P3 : Hid _ := rput_at np 2 A3 HA3.out (by omega) (by omega) (by decide)
        have x1 : IntKind.u64.wrap p = p := by rw [IntKind.wrap_u64]; omega
        have x2 : IntKind.u64.wrap t = t := by rw [IntKind.wrap_u64]; omega
        have x3 : IntKind.u64.wrap np = np := by rw [IntKind.wrap_u64]; omega
        have x4 : IntKind.u8.wrap (dl.size : Int) = z := by rw [IntKind.wrap_u8]; exact HZ.out
        have x4' : (dl.size : Int) % 256 = z := HZ.out
        have z1 : (strOfNums A1).size = 2 := by rw [strOfNums_size, ← HA1.out, low_length]
        have z2 : (strOfNums A2).size = 4 := by rw [strOfNums_size, ← HA2.out, low_length]
        have z3 : (strOfNums A3).size = 2 := by rw [strOfNums_size, ← HA3.out, low_length]
        have z4 : (strOfNums [ns, z]).size = 2 := rfl
        have t1 : { data := #[1] } ++ strOfNums A1 = strOfNums B1 := by
          have : ({ data := #[1] } : ByteArray) = strOfNums [1] := rfl
          rw [this, tx_app, HB1.out]
        have t2 : strOfNums B1 ++ strOfNums A2 = strOfNums B2 := by rw [tx_app, HB2.out]
        have t3 : strOfNums B2 ++ strOfNums A3 = strOfNums B3 := by rw [tx_app, HB3.out]
        have t4 : strOfNums B3 ++ strOfNums [ns, z] = strOfNums B4 := by rw [tx_app, HB4.out]
        have t5 : strOfNums B4 ++ dl = strOfNums B5 := by
          conv => lhs; rw [← tx_nums dl]
          rw [tx_app, HB5.out]
        have t6 : strOfNums Y ++ strOfNums B5 = strOfNums Y' := by rw [tx_app, HYY.out, HT.out]
        have y1 : (strOfNums B1).size = 3 := by rw [← t1, ByteArray.size_append, z1]; rfl
        have y2 : (strOfNums B2).size = 7 := by rw [← t2, ByteArray.size_append, y1, z2]
        have y3 : (strOfNums B3).size = 9 := by rw [← t3, ByteArray.size_append, y2, z3]
        have y4 : (strOfNums B4).size = 11 := by rw [← t4, ByteArray.size_append, y3, z4]
        have y5 : (strOfNums B5).size = 11 + dl.size := by rw [← t5, ByteArray.size_append, y4]
        refine wp_region_held_drew (S := fun w' => Row w' go #[.bool true, .int .u16 p, .int .u32 t, .int .u16 np, .int .u8 ns, .string dl] 130 ∧ Row w' w.heap.size #[.int .u64 lsn, .slice (some a) n cap] 103 ∧ Below w.heap.size w w') (by kernel_rfl) ⟨q2, d0, db.drew⟩ fun hS => ?_
        clear q2 d0 db
        generalize w5.drew = wd at hS ⊢
        refine tkI (i := 0) (v := .string (strOfNums Y)) rfl (Or.inl ⟨by rfl, fun w _ => by go_simp⟩) hS ?_
        try simp only [Act.put, nz]
        refine tkI (i := 1) (v := .pointer (some ⟨go, 1, none⟩)) rfl (Or.inl ⟨by rfl, fun w _ => by go_simp⟩) hS ?_
        try simp only [Act.put, nz]
        refine tkI (i := 2) (v := .int .u16 p) rfl (Or.inl ⟨by rfl, fun w h => by have c := row_at h.1 1 _ rfl; go_simp⟩) hS ?_
        try simp only [Act.put, nz]
        refine tkI (i := 3) (v := .int .u64 p) rfl (Or.inl ⟨by rfl, fun w _ => by go_simp⟩) hS ?_
        try simp only [Act.put, nz]
        refine tkI (i := 6) (v := .pointer (some ⟨go, 2, none⟩)) rfl (Or.inl ⟨by rfl, fun w _ => by go_simp⟩) hS ?_
        try simp only [Act.put, nz]
        refine tkI (i := 7) (v := .int .u32 t) rfl (Or.inl ⟨by rfl, fun w h => by have c := row_at h.1 2 _ rfl; go_simp⟩) hS ?_
        try simp only [Act.put, nz]
        refine tkI (i := 8) (v := .int .u64 t) rfl (Or.inl ⟨by rfl, fun w _ => by go_simp⟩) hS ?_
        try simp only [Act.put, nz]
        refine tkI (i := 11) (v := .pointer (some ⟨go, 3, none⟩)) rfl (Or.inl ⟨by rfl, fun w _ => by go_simp⟩) hS ?_
        try simp only [Act.put, nz]
        refine tkI (i := 12) (v := .pointer (some ⟨go, 3, none⟩)) rfl (Or.inl ⟨by rfl, fun w _ => by go_simp⟩) hS ?_
        try simp only [Act.put, nz]
        refine tkI (i := 13) (v := .int .u16 np) rfl (Or.inl ⟨by rfl, fun w h => by have c := row_at h.1 3 _ rfl; go_simp⟩) hS ?_
        try simp only [Act.put, nz]
        refine tkI (i := 14) (v := .int .u64 np) rfl (Or.inl ⟨by rfl, fun w _ => by go_simp⟩) hS ?_
        try simp only [Act.put, nz]
        refine tkI (i := 17) (v := .pointer (some ⟨go, 3, none⟩)) rfl (Or.inl ⟨by rfl, fun w _ => by go_simp⟩) hS ?_
        try simp only [Act.put, nz]
        refine tkI (i := 18) (v := .pointer (some ⟨go, 4, none⟩)) rfl (Or.inl ⟨by rfl, fun w _ => by go_simp⟩) hS ?_
        try simp only [Act.put, nz]
        refine tkI (i := 19) (v := .int .u8 ns) rfl (Or.inl ⟨by rfl, fun w h => by have c := row_at h.1 4 _ rfl; go_simp⟩) hS ?_
        try simp only [Act.put, nz]
        refine tkI (i := 20) (v := .pointer (some ⟨go, 5, none⟩)) rfl (Or.inl ⟨by rfl, fun w _ => by go_simp⟩) hS ?_
        try simp only [Act.put, nz]
        refine tkI (i := 21) (v := .string dl) rfl (Or.inl ⟨by rfl, fun w h => by have c := row_at h.1 5 _ rfl; go_simp⟩) hS ?_
        try simp only [Act.put, nz]
        refine tkI (i := 22) (v := .int .i64 dl.size) rfl (Or.inl ⟨by rfl, fun w _ => by go_simp⟩) hS ?_
        try simp only [Act.put, nz]
        refine tkI (i := 23) (v := .int .u8 z) rfl (Or.inl ⟨by rfl, fun w _ => by go_simp⟩) hS ?_
        try simp only [Act.put, nz]
        refine tkI (i := 27) (v := .pointer (some ⟨go, 5, none⟩)) rfl (Or.inl ⟨by rfl, fun w _ => by go_simp⟩) hS ?_
        try simp only [Act.put, nz]
        refine tkI (i := 28) (v := .string dl) rfl (Or.inl ⟨by rfl, fun w h => by have c := row_at h.1 5 _ rfl; go_simp⟩) hS ?_
        try simp only [Act.put, nz]
        refine wpAnyH_ready (rs := [4, 24]) (by kernel_rfl) (by simp) ?_
        exact (AllReadyH.cons rfl (fun K hK => by
          go_simp
          go_at_call 87
          refine Calls.mono (P1.out _) ?_
          rintro e w1_4 ⟨rfl, hcb⟩
          refine hK.out _ _ (⟨hS.1.below hcb hS.1.lt, hS.2.1.below hcb hS.2.1.lt, hS.2.2.trans (hcb.mono hS.2.2.size)⟩) fun hS => ?_
          try simp only [Act.put, nz]
          clear hcb
          refine tkI (i := 5) (v := .string (strOfNums B1)) rfl (Or.inl ⟨by rfl, fun w _ => by go_simp⟩) hS ?_
          try simp only [Act.put, nz]
          refine wpAnyH_ready (rs := [9, 24]) (by kernel_rfl) (by simp) ?_
          exact (AllReadyH.cons rfl (fun K hK => by
            go_simp
            go_at_call 87
            refine Calls.mono (P2.out _) ?_
            rintro e w2_9 ⟨rfl, hcb⟩
            refine hK.out _ _ (⟨hS.1.below hcb hS.1.lt, hS.2.1.below hcb hS.2.1.lt, hS.2.2.trans (hcb.mono hS.2.2.size)⟩) fun hS => ?_
            try simp only [Act.put, nz]
            clear hcb
            refine tkI (i := 10) (v := .string (strOfNums B2)) rfl (Or.inl ⟨by rfl, fun w _ => by go_simp⟩) hS ?_
            try simp only [Act.put, nz]
            refine wpAnyH_ready (rs := [15, 24]) (by kernel_rfl) (by simp) ?_
            exact (AllReadyH.cons rfl (fun K hK => by
              go_simp
              go_at_call 87
              refine Calls.mono (P3.out _) ?_
              rintro e w3_15 ⟨rfl, hcb⟩
              refine hK.out _ _ (⟨hS.1.below hcb hS.1.lt, hS.2.1.below hcb hS.2.1.lt, hS.2.2.trans (hcb.mono hS.2.2.size)⟩) fun hS => ?_
              try simp only [Act.put, nz]
              clear hcb
              refine tkI (i := 16) (v := .string (strOfNums B3)) rfl (Or.inl ⟨by rfl, fun w _ => by go_simp⟩) hS ?_
              try simp only [Act.put, nz]
              refine wpAnyH_ready (rs := [24]) (by kernel_rfl) (by simp) ?_
              refine AllReadyH.cons rfl (fun K hK => ?_) AllReadyH.nil
              have ngb := hS.2.2.size
              have ngbs0 := hS.1.lt
              have ngbs1 := hS.2.1.lt
              have rb : Row (w3_15.alloc (.cells #[.int .u8 ns, .int .u8 z] 5)) w3_15.heap.size #[.int .u8 ns, .int .u8 z] 5 := Row.new _ _ _
              go_simp
              refine hK.out _ _ (⟨hS.1.alloc _, hS.2.1.alloc _, hS.2.2.alloc hS.2.2.size _⟩) fun hS => ?_
              try simp only [Act.put, nz]
              generalize w3_15.alloc (.cells #[.int .u8 ns, .int .u8 z] 5) = w4_24 at rb  hS ⊢
              generalize w3_15.heap.size = gb at rb ngb ngbs0 ngbs1 ⊢
              refine wpAnyH_ready (rs := [25]) (by kernel_rfl) (by simp) ?_
              refine AllReadyH.cons rfl (fun K hK => ?_) AllReadyH.nil
              have cc := str_row (ys := [ns, z]) rb 2 2 rfl
              go_simp
              refine hK.out _ _ (hS) fun hS => ?_
              try simp only [Act.put, nz]
              clear cc
              refine tkI (i := 26) (v := .string (strOfNums B4)) rfl (Or.inl ⟨by rfl, fun w _ => by go_simp⟩) hS ?_
              try simp only [Act.put, nz]
              refine tkI (i := 29) (v := .string (strOfNums B5)) rfl (Or.inl ⟨by rfl, fun w _ => by go_simp; omega⟩) hS ?_
              try simp only [Act.put, nz]
              refine tkI (i := 30) (v := .string (strOfNums Y')) rfl (Or.inl ⟨by rfl, fun w _ => by go_simp; omega⟩) hS ?_
              try simp only [Act.put, nz]
              refine tkI (i := 31) (v := .string (strOfNums Y')) rfl (Or.inl ⟨by rfl, fun w _ => by go_simp⟩) hS ?_
              try simp only [Act.put, nz]
              refine wpAnyH_done (by kernel_rfl) ?_ _
              go_wp2
              go_roundw
              case rel => exact ⟨k + 1, by omega, by go_num, by rw [HY'.out], hS.2.1, hS.2.2⟩
              case measure => simp [intOf]; omega
            ) (AllReadyH.cons rfl (fun K hK => by
              have ngb := hS.2.2.size
              have ngbs0 := hS.1.lt
              have ngbs1 := hS.2.1.lt
              have rb : Row (w2_9.alloc (.cells #[.int .u8 ns, .int .u8 z] 5)) w2_9.heap.size #[.int .u8 ns, .int .u8 z] 5 := Row.new _ _ _
              go_simp
              refine hK.out _ _ (⟨hS.1.alloc _, hS.2.1.alloc _, hS.2.2.alloc hS.2.2.size _⟩) fun hS => ?_
              try simp only [Act.put, nz]
              generalize w2_9.alloc (.cells #[.int .u8 ns, .int .u8 z] 5) = w3_24 at rb  hS ⊢
              generalize w2_9.heap.size = gb at rb ngb ngbs0 ngbs1 ⊢
              refine wpAnyH_ready (rs := [15, 25]) (by kernel_rfl) (by simp) ?_
              exact (AllReadyH.cons rfl (fun K hK => by
                go_simp
                go_at_call 87
                refine Calls.mono (P3.out _) ?_
                rintro e w4_15 ⟨rfl, hcb⟩
                have rb := rb.below hcb rb.lt
                refine hK.out _ _ (⟨hS.1.below hcb hS.1.lt, hS.2.1.below hcb hS.2.1.lt, hS.2.2.trans (hcb.mono hS.2.2.size)⟩) fun hS => ?_
                try simp only [Act.put, nz]
                clear hcb
                refine tkI (i := 16) (v := .string (strOfNums B3)) rfl (Or.inl ⟨by rfl, fun w _ => by go_simp⟩) hS ?_
                try simp only [Act.put, nz]
                refine wpAnyH_ready (rs := [25]) (by kernel_rfl) (by simp) ?_
                refine AllReadyH.cons rfl (fun K hK => ?_) AllReadyH.nil
                have cc := str_row (ys := [ns, z]) rb 2 2 rfl
                go_simp
                refine hK.out _ _ (hS) fun hS => ?_
                try simp only [Act.put, nz]
                clear cc
                refine tkI (i := 26) (v := .string (strOfNums B4)) rfl (Or.inl ⟨by rfl, fun w _ => by go_simp⟩) hS ?_
                try simp only [Act.put, nz]
                refine tkI (i := 29) (v := .string (strOfNums B5)) rfl (Or.inl ⟨by rfl, fun w _ => by go_simp; omega⟩) hS ?_
                try simp only [Act.put, nz]
                refine tkI (i := 30) (v := .string (strOfNums Y')) rfl (Or.inl ⟨by rfl, fun w _ => by go_simp; omega⟩) hS ?_
                try simp only [Act.put, nz]
                refine tkI (i := 31) (v := .string (strOfNums Y')) rfl (Or.inl ⟨by rfl, fun w _ => by go_simp⟩) hS ?_
                try simp only [Act.put, nz]
                refine wpAnyH_done (by kernel_rfl) ?_ _
                go_wp2
                go_roundw
                case rel => exact ⟨k + 1, by omega, by go_num, by rw [HY'.out], hS.2.1, hS.2.2⟩
                case measure => simp [intOf]; omega
              ) (AllReadyH.cons rfl (fun K hK => by
                have cc := str_row (ys := [ns, z]) rb 2 2 rfl
                go_simp
                refine hK.out _ _ (hS) fun hS => ?_
                try simp only [Act.put, nz]
                clear cc
                refine wpAnyH_ready (rs := [15]) (by kernel_rfl) (by simp) ?_
                refine AllReadyH.cons rfl (fun K hK => ?_) AllReadyH.nil
                go_simp
                go_at_call 87
                refine Calls.mono (P3.out _) ?_
                rintro e w5_15 ⟨rfl, hcb⟩
                have rb := rb.below hcb rb.lt
                refine hK.out _ _ (⟨hS.1.below hcb hS.1.lt, hS.2.1.below hcb hS.2.1.lt, hS.2.2.trans (hcb.mono hS.2.2.size)⟩) fun hS => ?_
                try simp only [Act.put, nz]
                clear hcb
                refine tkI (i := 16) (v := .string (strOfNums B3)) rfl (Or.inl ⟨by rfl, fun w _ => by go_simp⟩) hS ?_
                try simp only [Act.put, nz]
                refine tkI (i := 26) (v := .string (strOfNums B4)) rfl (Or.inl ⟨by rfl, fun w _ => by go_simp⟩) hS ?_
                try simp only [Act.put, nz]
                refine tkI (i := 29) (v := .string (strOfNums B5)) rfl (Or.inl ⟨by rfl, fun w _ => by go_simp; omega⟩) hS ?_
                try simp only [Act.put, nz]
                refine tkI (i := 30) (v := .string (strOfNums Y')) rfl (Or.inl ⟨by rfl, fun w _ => by go_simp; omega⟩) hS ?_
                try simp only [Act.put, nz]
                refine tkI (i := 31) (v := .string (strOfNums Y')) rfl (Or.inl ⟨by rfl, fun w _ => by go_simp⟩) hS ?_
                try simp only [Act.put, nz]
                refine wpAnyH_done (by kernel_rfl) ?_ _
                go_wp2
                go_roundw
                case rel => exact ⟨k + 1, by omega, by go_num, by rw [HY'.out], hS.2.1, hS.2.2⟩
                case measure => simp [intOf]; omega
              ) AllReadyH.nil))
            ) AllReadyH.nil))
          ) (AllReadyH.cons rfl (fun K hK => by
            have ngb := hS.2.2.size
            have ngbs0 := hS.1.lt
            have ngbs1 := hS.2.1.lt
            have rb : Row (w1_4.alloc (.cells #[.int .u8 ns, .int .u8 z] 5)) w1_4.heap.size #[.int .u8 ns, .int .u8 z] 5 := Row.new _ _ _
            go_simp
            refine hK.out _ _ (⟨hS.1.alloc _, hS.2.1.alloc _, hS.2.2.alloc hS.2.2.size _⟩) fun hS => ?_
            try simp only [Act.put, nz]
            generalize w1_4.alloc (.cells #[.int .u8 ns, .int .u8 z] 5) = w2_24 at rb  hS ⊢
            generalize w1_4.heap.size = gb at rb ngb ngbs0 ngbs1 ⊢
            refine wpAnyH_ready (rs := [9, 25]) (by kernel_rfl) (by simp) ?_
            exact (AllReadyH.cons rfl (fun K hK => by
              go_simp
              go_at_call 87
              refine Calls.mono (P2.out _) ?_
              rintro e w3_9 ⟨rfl, hcb⟩
              have rb := rb.below hcb rb.lt
              refine hK.out _ _ (⟨hS.1.below hcb hS.1.lt, hS.2.1.below hcb hS.2.1.lt, hS.2.2.trans (hcb.mono hS.2.2.size)⟩) fun hS => ?_
              try simp only [Act.put, nz]
              clear hcb
              refine tkI (i := 10) (v := .string (strOfNums B2)) rfl (Or.inl ⟨by rfl, fun w _ => by go_simp⟩) hS ?_
              try simp only [Act.put, nz]
              refine wpAnyH_ready (rs := [15, 25]) (by kernel_rfl) (by simp) ?_
              exact (AllReadyH.cons rfl (fun K hK => by
                go_simp
                go_at_call 87
                refine Calls.mono (P3.out _) ?_
                rintro e w4_15 ⟨rfl, hcb⟩
                have rb := rb.below hcb rb.lt
                refine hK.out _ _ (⟨hS.1.below hcb hS.1.lt, hS.2.1.below hcb hS.2.1.lt, hS.2.2.trans (hcb.mono hS.2.2.size)⟩) fun hS => ?_
                try simp only [Act.put, nz]
                clear hcb
                refine tkI (i := 16) (v := .string (strOfNums B3)) rfl (Or.inl ⟨by rfl, fun w _ => by go_simp⟩) hS ?_
                try simp only [Act.put, nz]
                refine wpAnyH_ready (rs := [25]) (by kernel_rfl) (by simp) ?_
                refine AllReadyH.cons rfl (fun K hK => ?_) AllReadyH.nil
                have cc := str_row (ys := [ns, z]) rb 2 2 rfl
                go_simp
                refine hK.out _ _ (hS) fun hS => ?_
                try simp only [Act.put, nz]
                clear cc
                refine tkI (i := 26) (v := .string (strOfNums B4)) rfl (Or.inl ⟨by rfl, fun w _ => by go_simp⟩) hS ?_
                try simp only [Act.put, nz]
                refine tkI (i := 29) (v := .string (strOfNums B5)) rfl (Or.inl ⟨by rfl, fun w _ => by go_simp; omega⟩) hS ?_
                try simp only [Act.put, nz]
                refine tkI (i := 30) (v := .string (strOfNums Y')) rfl (Or.inl ⟨by rfl, fun w _ => by go_simp; omega⟩) hS ?_
                try simp only [Act.put, nz]
                refine tkI (i := 31) (v := .string (strOfNums Y')) rfl (Or.inl ⟨by rfl, fun w _ => by go_simp⟩) hS ?_
                try simp only [Act.put, nz]
                refine wpAnyH_done (by kernel_rfl) ?_ _
                go_wp2
                go_roundw
                case rel => exact ⟨k + 1, by omega, by go_num, by rw [HY'.out], hS.2.1, hS.2.2⟩
                case measure => simp [intOf]; omega
              ) (AllReadyH.cons rfl (fun K hK => by
                have cc := str_row (ys := [ns, z]) rb 2 2 rfl
                go_simp
                refine hK.out _ _ (hS) fun hS => ?_
                try simp only [Act.put, nz]
                clear cc
                refine wpAnyH_ready (rs := [15]) (by kernel_rfl) (by simp) ?_
                refine AllReadyH.cons rfl (fun K hK => ?_) AllReadyH.nil
                go_simp
                go_at_call 87
                refine Calls.mono (P3.out _) ?_
                rintro e w5_15 ⟨rfl, hcb⟩
                have rb := rb.below hcb rb.lt
                refine hK.out _ _ (⟨hS.1.below hcb hS.1.lt, hS.2.1.below hcb hS.2.1.lt, hS.2.2.trans (hcb.mono hS.2.2.size)⟩) fun hS => ?_
                try simp only [Act.put, nz]
                clear hcb
                refine tkI (i := 16) (v := .string (strOfNums B3)) rfl (Or.inl ⟨by rfl, fun w _ => by go_simp⟩) hS ?_
                try simp only [Act.put, nz]
                refine tkI (i := 26) (v := .string (strOfNums B4)) rfl (Or.inl ⟨by rfl, fun w _ => by go_simp⟩) hS ?_
                try simp only [Act.put, nz]
                refine tkI (i := 29) (v := .string (strOfNums B5)) rfl (Or.inl ⟨by rfl, fun w _ => by go_simp; omega⟩) hS ?_
                try simp only [Act.put, nz]
                refine tkI (i := 30) (v := .string (strOfNums Y')) rfl (Or.inl ⟨by rfl, fun w _ => by go_simp; omega⟩) hS ?_
                try simp only [Act.put, nz]
                refine tkI (i := 31) (v := .string (strOfNums Y')) rfl (Or.inl ⟨by rfl, fun w _ => by go_simp⟩) hS ?_
                try simp only [Act.put, nz]
                refine wpAnyH_done (by kernel_rfl) ?_ _
                go_wp2
                go_roundw
                case rel => exact ⟨k + 1, by omega, by go_num, by rw [HY'.out], hS.2.1, hS.2.2⟩
                case measure => simp [intOf]; omega
              ) AllReadyH.nil))
            ) (AllReadyH.cons rfl (fun K hK => by
              have cc := str_row (ys := [ns, z]) rb 2 2 rfl
              go_simp
              refine hK.out _ _ (hS) fun hS => ?_
              try simp only [Act.put, nz]
              clear cc
              refine wpAnyH_ready (rs := [9]) (by kernel_rfl) (by simp) ?_
              refine AllReadyH.cons rfl (fun K hK => ?_) AllReadyH.nil
              go_simp
              go_at_call 87
              refine Calls.mono (P2.out _) ?_
              rintro e w4_9 ⟨rfl, hcb⟩
              have rb := rb.below hcb rb.lt
              refine hK.out _ _ (⟨hS.1.below hcb hS.1.lt, hS.2.1.below hcb hS.2.1.lt, hS.2.2.trans (hcb.mono hS.2.2.size)⟩) fun hS => ?_
              try simp only [Act.put, nz]
              clear hcb
              refine tkI (i := 10) (v := .string (strOfNums B2)) rfl (Or.inl ⟨by rfl, fun w _ => by go_simp⟩) hS ?_
              try simp only [Act.put, nz]
              refine wpAnyH_ready (rs := [15]) (by kernel_rfl) (by simp) ?_
              refine AllReadyH.cons rfl (fun K hK => ?_) AllReadyH.nil
              go_simp
              go_at_call 87
              refine Calls.mono (P3.out _) ?_
              rintro e w5_15 ⟨rfl, hcb⟩
              have rb := rb.below hcb rb.lt
              refine hK.out _ _ (⟨hS.1.below hcb hS.1.lt, hS.2.1.below hcb hS.2.1.lt, hS.2.2.trans (hcb.mono hS.2.2.size)⟩) fun hS => ?_
              try simp only [Act.put, nz]
              clear hcb
              refine tkI (i := 16) (v := .string (strOfNums B3)) rfl (Or.inl ⟨by rfl, fun w _ => by go_simp⟩) hS ?_
              try simp only [Act.put, nz]
              refine tkI (i := 26) (v := .string (strOfNums B4)) rfl (Or.inl ⟨by rfl, fun w _ => by go_simp⟩) hS ?_
              try simp only [Act.put, nz]
              refine tkI (i := 29) (v := .string (strOfNums B5)) rfl (Or.inl ⟨by rfl, fun w _ => by go_simp; omega⟩) hS ?_
              try simp only [Act.put, nz]
              refine tkI (i := 30) (v := .string (strOfNums Y')) rfl (Or.inl ⟨by rfl, fun w _ => by go_simp; omega⟩) hS ?_
              try simp only [Act.put, nz]
              refine tkI (i := 31) (v := .string (strOfNums Y')) rfl (Or.inl ⟨by rfl, fun w _ => by go_simp⟩) hS ?_
              try simp only [Act.put, nz]
              refine wpAnyH_done (by kernel_rfl) ?_ _
              go_wp2
              go_roundw
              case rel => exact ⟨k + 1, by omega, by go_num, by rw [HY'.out], hS.2.1, hS.2.2⟩
              case measure => simp [intOf]; omega
            ) AllReadyH.nil))
          ) AllReadyH.nil))
        ) (AllReadyH.cons rfl (fun K hK => by
          have ngb := hS.2.2.size
          have ngbs0 := hS.1.lt
          have ngbs1 := hS.2.1.lt
          have rb : Row (wd.alloc (.cells #[.int .u8 ns, .int .u8 z] 5)) wd.heap.size #[.int .u8 ns, .int .u8 z] 5 := Row.new _ _ _
          go_simp
          refine hK.out _ _ (⟨hS.1.alloc _, hS.2.1.alloc _, hS.2.2.alloc hS.2.2.size _⟩) fun hS => ?_
          try simp only [Act.put, nz]
          generalize wd.alloc (.cells #[.int .u8 ns, .int .u8 z] 5) = w1_24 at rb  hS ⊢
          generalize wd.heap.size = gb at rb ngb ngbs0 ngbs1 ⊢
          refine wpAnyH_ready (rs := [4, 25]) (by kernel_rfl) (by simp) ?_
          exact (AllReadyH.cons rfl (fun K hK => by
            go_simp
            go_at_call 87
            refine Calls.mono (P1.out _) ?_
            rintro e w2_4 ⟨rfl, hcb⟩
            have rb := rb.below hcb rb.lt
            refine hK.out _ _ (⟨hS.1.below hcb hS.1.lt, hS.2.1.below hcb hS.2.1.lt, hS.2.2.trans (hcb.mono hS.2.2.size)⟩) fun hS => ?_
            try simp only [Act.put, nz]
            clear hcb
            refine tkI (i := 5) (v := .string (strOfNums B1)) rfl (Or.inl ⟨by rfl, fun w _ => by go_simp⟩) hS ?_
            try simp only [Act.put, nz]
            refine wpAnyH_ready (rs := [9, 25]) (by kernel_rfl) (by simp) ?_
            exact (AllReadyH.cons rfl (fun K hK => by
              go_simp
              go_at_call 87
              refine Calls.mono (P2.out _) ?_
              rintro e w3_9 ⟨rfl, hcb⟩
              have rb := rb.below hcb rb.lt
              refine hK.out _ _ (⟨hS.1.below hcb hS.1.lt, hS.2.1.below hcb hS.2.1.lt, hS.2.2.trans (hcb.mono hS.2.2.size)⟩) fun hS => ?_
              try simp only [Act.put, nz]
              clear hcb
              refine tkI (i := 10) (v := .string (strOfNums B2)) rfl (Or.inl ⟨by rfl, fun w _ => by go_simp⟩) hS ?_
              try simp only [Act.put, nz]
              refine wpAnyH_ready (rs := [15, 25]) (by kernel_rfl) (by simp) ?_
              exact (AllReadyH.cons rfl (fun K hK => by
                go_simp
                go_at_call 87
                refine Calls.mono (P3.out _) ?_
                rintro e w4_15 ⟨rfl, hcb⟩
                have rb := rb.below hcb rb.lt
                refine hK.out _ _ (⟨hS.1.below hcb hS.1.lt, hS.2.1.below hcb hS.2.1.lt, hS.2.2.trans (hcb.mono hS.2.2.size)⟩) fun hS => ?_
                try simp only [Act.put, nz]
                clear hcb
                refine tkI (i := 16) (v := .string (strOfNums B3)) rfl (Or.inl ⟨by rfl, fun w _ => by go_simp⟩) hS ?_
                try simp only [Act.put, nz]
                refine wpAnyH_ready (rs := [25]) (by kernel_rfl) (by simp) ?_
                refine AllReadyH.cons rfl (fun K hK => ?_) AllReadyH.nil
                have cc := str_row (ys := [ns, z]) rb 2 2 rfl
                go_simp
                refine hK.out _ _ (hS) fun hS => ?_
                try simp only [Act.put, nz]
                clear cc
                refine tkI (i := 26) (v := .string (strOfNums B4)) rfl (Or.inl ⟨by rfl, fun w _ => by go_simp⟩) hS ?_
                try simp only [Act.put, nz]
                refine tkI (i := 29) (v := .string (strOfNums B5)) rfl (Or.inl ⟨by rfl, fun w _ => by go_simp; omega⟩) hS ?_
                try simp only [Act.put, nz]
                refine tkI (i := 30) (v := .string (strOfNums Y')) rfl (Or.inl ⟨by rfl, fun w _ => by go_simp; omega⟩) hS ?_
                try simp only [Act.put, nz]
                refine tkI (i := 31) (v := .string (strOfNums Y')) rfl (Or.inl ⟨by rfl, fun w _ => by go_simp⟩) hS ?_
                try simp only [Act.put, nz]
                refine wpAnyH_done (by kernel_rfl) ?_ _
                go_wp2
                go_roundw
                case rel => exact ⟨k + 1, by omega, by go_num, by rw [HY'.out], hS.2.1, hS.2.2⟩
                case measure => simp [intOf]; omega
              ) (AllReadyH.cons rfl (fun K hK => by
                have cc := str_row (ys := [ns, z]) rb 2 2 rfl
                go_simp
                refine hK.out _ _ (hS) fun hS => ?_
                try simp only [Act.put, nz]
                clear cc
                refine wpAnyH_ready (rs := [15]) (by kernel_rfl) (by simp) ?_
                refine AllReadyH.cons rfl (fun K hK => ?_) AllReadyH.nil
                go_simp
                go_at_call 87
                refine Calls.mono (P3.out _) ?_
                rintro e w5_15 ⟨rfl, hcb⟩
                have rb := rb.below hcb rb.lt
                refine hK.out _ _ (⟨hS.1.below hcb hS.1.lt, hS.2.1.below hcb hS.2.1.lt, hS.2.2.trans (hcb.mono hS.2.2.size)⟩) fun hS => ?_
                try simp only [Act.put, nz]
                clear hcb
                refine tkI (i := 16) (v := .string (strOfNums B3)) rfl (Or.inl ⟨by rfl, fun w _ => by go_simp⟩) hS ?_
                try simp only [Act.put, nz]
                refine tkI (i := 26) (v := .string (strOfNums B4)) rfl (Or.inl ⟨by rfl, fun w _ => by go_simp⟩) hS ?_
                try simp only [Act.put, nz]
                refine tkI (i := 29) (v := .string (strOfNums B5)) rfl (Or.inl ⟨by rfl, fun w _ => by go_simp; omega⟩) hS ?_
                try simp only [Act.put, nz]
                refine tkI (i := 30) (v := .string (strOfNums Y')) rfl (Or.inl ⟨by rfl, fun w _ => by go_simp; omega⟩) hS ?_
                try simp only [Act.put, nz]
                refine tkI (i := 31) (v := .string (strOfNums Y')) rfl (Or.inl ⟨by rfl, fun w _ => by go_simp⟩) hS ?_
                try simp only [Act.put, nz]
                refine wpAnyH_done (by kernel_rfl) ?_ _
                go_wp2
                go_roundw
                case rel => exact ⟨k + 1, by omega, by go_num, by rw [HY'.out], hS.2.1, hS.2.2⟩
                case measure => simp [intOf]; omega
              ) AllReadyH.nil))
            ) (AllReadyH.cons rfl (fun K hK => by
              have cc := str_row (ys := [ns, z]) rb 2 2 rfl
              go_simp
              refine hK.out _ _ (hS) fun hS => ?_
              try simp only [Act.put, nz]
              clear cc
              refine wpAnyH_ready (rs := [9]) (by kernel_rfl) (by simp) ?_
              refine AllReadyH.cons rfl (fun K hK => ?_) AllReadyH.nil
              go_simp
              go_at_call 87
              refine Calls.mono (P2.out _) ?_
              rintro e w4_9 ⟨rfl, hcb⟩
              have rb := rb.below hcb rb.lt
              refine hK.out _ _ (⟨hS.1.below hcb hS.1.lt, hS.2.1.below hcb hS.2.1.lt, hS.2.2.trans (hcb.mono hS.2.2.size)⟩) fun hS => ?_
              try simp only [Act.put, nz]
              clear hcb
              refine tkI (i := 10) (v := .string (strOfNums B2)) rfl (Or.inl ⟨by rfl, fun w _ => by go_simp⟩) hS ?_
              try simp only [Act.put, nz]
              refine wpAnyH_ready (rs := [15]) (by kernel_rfl) (by simp) ?_
              refine AllReadyH.cons rfl (fun K hK => ?_) AllReadyH.nil
              go_simp
              go_at_call 87
              refine Calls.mono (P3.out _) ?_
              rintro e w5_15 ⟨rfl, hcb⟩
              have rb := rb.below hcb rb.lt
              refine hK.out _ _ (⟨hS.1.below hcb hS.1.lt, hS.2.1.below hcb hS.2.1.lt, hS.2.2.trans (hcb.mono hS.2.2.size)⟩) fun hS => ?_
              try simp only [Act.put, nz]
              clear hcb
              refine tkI (i := 16) (v := .string (strOfNums B3)) rfl (Or.inl ⟨by rfl, fun w _ => by go_simp⟩) hS ?_
              try simp only [Act.put, nz]
              refine tkI (i := 26) (v := .string (strOfNums B4)) rfl (Or.inl ⟨by rfl, fun w _ => by go_simp⟩) hS ?_
              try simp only [Act.put, nz]
              refine tkI (i := 29) (v := .string (strOfNums B5)) rfl (Or.inl ⟨by rfl, fun w _ => by go_simp; omega⟩) hS ?_
              try simp only [Act.put, nz]
              refine tkI (i := 30) (v := .string (strOfNums Y')) rfl (Or.inl ⟨by rfl, fun w _ => by go_simp; omega⟩) hS ?_
              try simp only [Act.put, nz]
              refine tkI (i := 31) (v := .string (strOfNums Y')) rfl (Or.inl ⟨by rfl, fun w _ => by go_simp⟩) hS ?_
              try simp only [Act.put, nz]
              refine wpAnyH_done (by kernel_rfl) ?_ _
              go_wp2
              go_roundw
              case rel => exact ⟨k + 1, by omega, by go_num, by rw [HY'.out], hS.2.1, hS.2.2⟩
              case measure => simp [intOf]; omega
            ) AllReadyH.nil))
          ) (AllReadyH.cons rfl (fun K hK => by
            have cc := str_row (ys := [ns, z]) rb 2 2 rfl
            go_simp
            refine hK.out _ _ (hS) fun hS => ?_
            try simp only [Act.put, nz]
            clear cc
            refine wpAnyH_ready (rs := [4]) (by kernel_rfl) (by simp) ?_
            refine AllReadyH.cons rfl (fun K hK => ?_) AllReadyH.nil
            go_simp
            go_at_call 87
            refine Calls.mono (P1.out _) ?_
            rintro e w3_4 ⟨rfl, hcb⟩
            have rb := rb.below hcb rb.lt
            refine hK.out _ _ (⟨hS.1.below hcb hS.1.lt, hS.2.1.below hcb hS.2.1.lt, hS.2.2.trans (hcb.mono hS.2.2.size)⟩) fun hS => ?_
            try simp only [Act.put, nz]
            clear hcb
            refine tkI (i := 5) (v := .string (strOfNums B1)) rfl (Or.inl ⟨by rfl, fun w _ => by go_simp⟩) hS ?_
            try simp only [Act.put, nz]
            refine wpAnyH_ready (rs := [9]) (by kernel_rfl) (by simp) ?_
            refine AllReadyH.cons rfl (fun K hK => ?_) AllReadyH.nil
            go_simp
            go_at_call 87
            refine Calls.mono (P2.out _) ?_
            rintro e w4_9 ⟨rfl, hcb⟩
            have rb := rb.below hcb rb.lt
            refine hK.out _ _ (⟨hS.1.below hcb hS.1.lt, hS.2.1.below hcb hS.2.1.lt, hS.2.2.trans (hcb.mono hS.2.2.size)⟩) fun hS => ?_
            try simp only [Act.put, nz]
            clear hcb
            refine tkI (i := 10) (v := .string (strOfNums B2)) rfl (Or.inl ⟨by rfl, fun w _ => by go_simp⟩) hS ?_
            try simp only [Act.put, nz]
            refine wpAnyH_ready (rs := [15]) (by kernel_rfl) (by simp) ?_
            refine AllReadyH.cons rfl (fun K hK => ?_) AllReadyH.nil
            go_simp
            go_at_call 87
            refine Calls.mono (P3.out _) ?_
            rintro e w5_15 ⟨rfl, hcb⟩
            have rb := rb.below hcb rb.lt
            refine hK.out _ _ (⟨hS.1.below hcb hS.1.lt, hS.2.1.below hcb hS.2.1.lt, hS.2.2.trans (hcb.mono hS.2.2.size)⟩) fun hS => ?_
            try simp only [Act.put, nz]
            clear hcb
            refine tkI (i := 16) (v := .string (strOfNums B3)) rfl (Or.inl ⟨by rfl, fun w _ => by go_simp⟩) hS ?_
            try simp only [Act.put, nz]
            refine tkI (i := 26) (v := .string (strOfNums B4)) rfl (Or.inl ⟨by rfl, fun w _ => by go_simp⟩) hS ?_
            try simp only [Act.put, nz]
            refine tkI (i := 29) (v := .string (strOfNums B5)) rfl (Or.inl ⟨by rfl, fun w _ => by go_simp; omega⟩) hS ?_
            try simp only [Act.put, nz]
            refine tkI (i := 30) (v := .string (strOfNums Y')) rfl (Or.inl ⟨by rfl, fun w _ => by go_simp; omega⟩) hS ?_
            try simp only [Act.put, nz]
            refine tkI (i := 31) (v := .string (strOfNums Y')) rfl (Or.inl ⟨by rfl, fun w _ => by go_simp⟩) hS ?_
            try simp only [Act.put, nz]
            refine wpAnyH_done (by kernel_rfl) ?_ _
            go_wp2
            go_roundw
            case rel => exact ⟨k + 1, by omega, by go_num, by rw [HY'.out], hS.2.1, hS.2.2⟩
            case measure => simp [intOf]; omega
          ) AllReadyH.nil))
        ) AllReadyH.nil))
    · obtain rfl : k = n := by omega
      have ht : os.take k = os := by rw [← HN.out, List.take_length]
      rw [ht]
      have hkn' : ¬ (k : Int) < (k : Int) := by omega
      go_wp2
      go_ret
      exact ⟨rfl, rb⟩
end Go.Proofs.Ytehogiondcpbcaa
