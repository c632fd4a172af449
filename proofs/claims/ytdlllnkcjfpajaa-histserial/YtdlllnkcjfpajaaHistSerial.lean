/-
  HistSerial: transactions one behind the other, each of which reads what was committed last, show nothing. No conditions.
-/
import Derived.Test.YtdlllnkcjfpajaaJq16
namespace Go.Proofs.Ytdlllnkcjfpajaa.histSerial
open Go.ChangeShapes Go.WideShapes Go.ChangeAt Go.RowKit
open Go.Deep
set_option linter.unusedVariables false
set_option linter.unusedSimpArgs false
theorem own : ownKnob Try.prog.godebug = none := by kernel_rfl
set_option maxRecDepth 20000 in
set_option maxHeartbeats 8000000 in
theorem walk (w : World) (v0 : Value) (a0 : List (List Int)) (v1 : Value) (a1 : List (List Int)) (p0 : B8 w v0 a0) (p1 : B8 w v1 a1) :
    Calls Try.prog 6 #[v0, v1] w fun e w' => e = .returned (.bool true) ∧ Below w.heap.size w w' := by
  have hz42 := zero42
  have hz39 := Pa.zero39
  have HFO : Hid (∀ w', Below w.heap.size w w' → (fun e w' => e = Ending.returned (.bool true) ∧ Below w.heap.size w w') (.returned (.bool true)) w') := fun w' h => ⟨rfl, h⟩
  generalize (fun e w' => e = Ending.returned (.bool true) ∧ Below w.heap.size w w') = PP at HFO ⊢
  have HAW : Hid (∀ w', Calls Try.prog 14 #[] w' fun e w'' => e = .returned (.bool true) ∧ Below w'.heap.size w' w'') := fun w' => awake_any w'
  obtain ⟨oa0, cap0, hv0, hc0⟩ := p0.hold
  obtain ⟨oa1, cap1, hv1, hc1⟩ := p1.hold
  obtain ⟨n0, HN0⟩ : ∃ n0, Hid (a0.length = n0) := ⟨_, rfl⟩
  obtain ⟨n1, HN1⟩ : ∃ n1, Hid (a1.length = n1) := ⟨_, rfl⟩
  rw [HN0.out] at hv0
  rw [HN1.out] at hv1
  subst hv0 hv1
  have HC0 : Hid (∀ (i : Nat) r, a0[i]? = some r → ∃ a o c, oa0 = some a ∧ w.cell? (a.add i) = some (.slice o r.length c) ∧ ∀ (j : Nat) x, r[j]? = some x → ∃ b, o = some b ∧ w.cell? (b.add j) = some (.int .u8 x) ∧ 0 ≤ x ∧ x ≤ 255) := hc0
  have HC1 : Hid (∀ (i : Nat) r, a1[i]? = some r → ∃ a o c, oa1 = some a ∧ w.cell? (a.add i) = some (.slice o r.length c) ∧ ∀ (j : Nat) x, r[j]? = some x → ∃ b, o = some b ∧ w.cell? (b.add j) = some (.int .u8 x) ∧ 0 ≤ x ∧ x ≤ 255) := hc1
  have hm0 : n0 ≤ 140737488355328 := by rw [← HN0.out]; exact p0.few
  have hm1 : n1 ≤ 140737488355328 := by rw [← HN1.out]; exact p1.few
  have HL0 : Hid (∀ r ∈ a0, r.length ≤ 140737488355328) := p0.lens
  have HL1 : Hid (∀ r ∈ a1, r.length ≤ 140737488355328) := p1.lens
  clear hc0 hc1 p0 p1
  have s0 : SerS w w.heap.size (w.heap.size + 1) (.slice none 0 0) [] (fun _ => 0) (w.alloc (.cells (newA fun _ => 0) 42)) := ⟨Row.new _ _ _, ⟨⟨rfl, Or.inl ⟨rfl, rfl⟩⟩, (fun h hm => by cases hm), (fun h hm => by cases hm)⟩, (Below.refl _ _).alloc (Nat.le_refl _) _⟩
  have i0 : SerI [] (fun _ => 0) 0 := SerI.start
  go_enter Try.func6, Try.ntmps6
  go_upto_region 5 with fail
  generalize w.alloc (.cells (newA fun _ => 0) 42) = w1 at s0 ⊢
  obtain ⟨B, HB⟩ : ∃ B, Hid (w.heap.size + 1 = B) := ⟨_, rfl⟩
  rw [HB.out] at s0
  have HNB : Hid (w.heap.size < B ∧ w.heap.size ≤ w.heap.size ∧ B = w.heap.size + 1) := ⟨by rw [← HB.out]; exact Nat.lt_succ_self _, Nat.le_refl _, HB.out.symm⟩
  obtain ⟨N, HN⟩ : ∃ N, Hid (w.heap.size = N) := ⟨_, rfl⟩
  rw [HN.out] at s0 ⊢
  replace HNB : Hid (N < B ∧ w.heap.size ≤ N ∧ B = N + 1) := ⟨by rw [← HN.out]; exact HNB.out.1, by rw [← HN.out]; exact Nat.le_refl _, by rw [← HN.out]; exact HNB.out.2.2⟩
  clear HB
  go_loopw [6, 7, 8] (fun p q r wo => ∃ (v' : Value) (ts i : Nat) (al : List Hm) (new : Int → Int), v' = p ∧ q = .int .u32 (ts : Int) ∧ r = .int .i64 (i : Int) ∧ i ≤ 9 ∧ ts ≤ i ∧ al.length = i ∧ SerI al new (ts : Int) ∧ SerS w N B v' al new wo) (fun _ _ r _ => 10 - (intOf r).toNat)
  case atStart => exact ⟨_, 0, 0, [], _, rfl, rfl, rfl, Nat.zero_le _, Nat.le_refl _, rfl, i0, s0⟩
  case round =>
    clear s0 i0
    rename World => wo
    obtain ⟨v', ts, i, al, new, rfl, rfl, rfl, hi9, hts, hal, hI, hS⟩ := hrel
    have HAL : Hid (al.length = i) := hal
    clear hal
    by_cases h0 : i < n0
    · have h0' : (i : Int) < (n0 : Int) := by omega
      by_cases h1 : i < n1
      · have h1' : (i : Int) < (n1 : Int) := by omega
        by_cases h9 : i < 9
        · have h9' : (i : Int) < 9 := by omega
          have hp0 : (0 : Int) ≤ (i : Int) := by omega
          obtain ⟨R0, hr0⟩ : ∃ r, a0[i]? = some r := ⟨_, List.getElem?_eq_getElem (by rw [HN0.out]; exact h0)⟩
          obtain ⟨R1, hr1⟩ : ∃ r, a1[i]? = some r := ⟨_, List.getElem?_eq_getElem (by rw [HN1.out]; exact h1)⟩
          obtain ⟨a0', o0, c0, rfl, hcl0, hel0⟩ := HC0.out i R0 hr0
          obtain ⟨a1', o1, c1, rfl, hcl1, hel1⟩ := HC1.out i R1 hr1
          have hq0 := HL0.out R0 (List.mem_of_getElem? hr0)
          have hq1 := HL1.out R1 (List.mem_of_getElem? hr1)
          clear hr0 hr1
          obtain ⟨ln0, HLN0⟩ : ∃ ln, Hid (R0.length = ln) := ⟨_, rfl⟩
          obtain ⟨ln1, HLN1⟩ : ∃ ln, Hid (R1.length = ln) := ⟨_, rfl⟩
          rw [HLN0.out] at hcl0 hq0
          rw [HLN1.out] at hcl1 hq1
          have HCL0 : Hid (w.cell? (a0'.add i) = some (.slice o0 ln0 c0)) := hcl0
          have HCL1 : Hid (w.cell? (a1'.add i) = some (.slice o1 ln1 c1)) := hcl1
          have HEL0 : Hid (∀ (j : Nat) x, R0[j]? = some x → ∃ b, o0 = some b ∧ w.cell? (b.add j) = some (.int .u8 x) ∧ 0 ≤ x ∧ x ≤ 255) := hel0
          have HEL1 : Hid (∀ (j : Nat) x, R1[j]? = some x → ∃ b, o1 = some b ∧ w.cell? (b.add j) = some (.int .u8 x) ∧ 0 ≤ x ∧ x ≤ 255) := hel1
          have HS : Hid (SerS w N B v' al new wo) := hS
          have HI : Hid (SerI al new (ts : Int)) := hI
          clear hcl0 hcl1 hel0 hel1 hI hS
          have hb39 := built39s (ts : Int)
          have q1 : Row (wo.alloc (.cells Pa.O.zero.arr 39)) wo.heap.size Pa.O.zero.arr 39 := Row.new _ _ _
          obtain ⟨k1, k2⟩ := copied wo (⟨(ts : Int), 0, true, ⟨none, 0, 0⟩, ⟨none, 0, 0⟩⟩ : Pa.O)
          have hP : HalfP wo wo.heap.size ts 0 (rsK new (R0.take 0)) (wsK (R1.take 0)) ((wo.alloc (.cells Pa.O.zero.arr 39)).setRow wo.heap.size (Pa.O.arr ⟨(ts : Int), 0, true, ⟨none, 0, 0⟩, ⟨none, 0, 0⟩⟩)) := ⟨⟨none, 0, 0⟩, ⟨none, 0, 0⟩, k1, ⟨⟨rfl, Or.inl ⟨rfl, rfl⟩⟩, ⟨rfl, Or.inl ⟨rfl, rfl⟩⟩⟩, k2⟩
          clear k1 k2
          go_upto_block 2 with (refine store_cells rfl 39 (.tmp 9) (.tmp 34) rfl wo.heap.size (Pa.O.arr ⟨(ts : Int), 0, true, ⟨none, 0, 0⟩, ⟨none, 0, 0⟩⟩) rfl rfl 39 _ q1 5 Pa.size39 rfl rfl (Pa.O.arr_one _) ?_)
          clear q1 hb39
          generalize (wo.alloc (.cells Pa.O.zero.arr 39)).setRow wo.heap.size (Pa.O.arr ⟨(ts : Int), 0, true, ⟨none, 0, 0⟩, ⟨none, 0, 0⟩⟩) = w5 at hP ⊢
          obtain ⟨T, HT⟩ : ∃ T, Hid (wo.heap.size = T) := ⟨_, rfl⟩
          rw [HT.out] at hP ⊢
          have hBT : B ≤ T := by have h1 := HS.out.row.lt; have h2 := HNB.out.2.2; rw [← HT.out]; omega
          go_cut [] from 35 to 66 (fun wx => HalfP wo T ts 0 (rsK new (R0.take 6)) (wsK (R1.take 0)) wx)
          case first =>
            go_wp2_with fail
            go_loopw [10] (fun q wx => ∃ k : Nat, q = .int .i64 (k : Int) ∧ k ≤ 6 ∧ k ≤ ln0 ∧ HalfP wo T ts 0 (rsK new (R0.take k)) (wsK (R1.take 0)) wx) (fun q _ => 7 - (intOf q).toNat)
            case atStart => exact ⟨0, rfl, Nat.zero_le _, Nat.zero_le _, hP⟩
            case round =>
              clear hP
              rename World => wx
              obtain ⟨k, rfl, hk6, hkr, hP⟩ := hrel
              have HP : Hid (HalfP wo T ts 0 (rsK new (R0.take k)) (wsK (R1.take 0)) wx) := hP
              obtain ⟨⟨ra, rn, rc⟩, ⟨sa, sn, sc⟩, row, own, bel⟩ := hP
              rw [← HT.out] at bel
              have hcr : wx.cell? (a0'.add i) = some (.slice o0 ln0 c0) := cell_keep (cell_keep HCL0.out HS.out.bel) bel
              by_cases hlt : k < ln0
              · have hlt' : (k : Int) < (ln0 : Int) := by omega
                by_cases hk : k < 6
                · have hk' : (k : Int) < 6 := by omega
                  have hk0 : (0 : Int) ≤ (k : Int) := by omega
                  obtain ⟨x, hx⟩ : ∃ x, R0[k]? = some x := ⟨_, List.getElem?_eq_getElem (by rw [HLN0.out]; exact hlt)⟩
                  obtain ⟨b0, rfl, hcx, hx0, hx1⟩ := HEL0.out k x hx
                  replace hcx := cell_keep (cell_keep hcx HS.out.bel) bel
                  obtain ⟨q, hq, hq4⟩ : ∃ q : Nat, x % 4 = (q : Int) ∧ q < 4 := ⟨(x % 4).toNat, by omega, by omega⟩
                  have hmod : Int.tmod x 4 = (q : Int) := by rw [Int.tmod_eq_emod_of_nonneg hx0]; exact hq
                  have hq0' : (0 : Int) ≤ (q : Int) := by omega
                  have hq4' : (q : Int) < 4 := by omega
                  have HX : Hid (R0[k]? = some x ∧ x % 4 = (q : Int)) := ⟨hx, hq⟩
                  have ROW : Hid (Row wx T #[.int .u32 (ts : Int), .int .u32 0, .bool true, .slice ra rn rc, .slice sa sn sc] 39) := row
                  have OWN : Hid (Own1 wx T (half ts 0 (rsK new (R0.take k)) (wsK (R1.take 0)) ⟨ra, rn, rc⟩ ⟨sa, sn, sc⟩)) := own
                  have BEL : Hid (Below T wo wx) := by show Below T wo wx; rw [← HT.out]; exact bel
                  clear hx hq own bel HP
                  have hcN : wx.cell? ⟨N, q, none⟩ = some (.int .u32 (new (q : Int))) := cell_keep (row_at HS.out.row q _ (newA_at new q hq4)) (by have := BEL.out; rw [← HT.out] at this; exact this)
                  obtain ⟨nv, HNV⟩ : ∃ nv, Hid (new (q : Int) = nv) := ⟨_, rfl⟩
                  rw [HNV.out] at hcN
                  have HRLE : Hid ((rsK new (R0.take k)).length ≤ 1000) := by show _ ≤ _; simp [rsK]; omega
                  go_upto_region 12 with fail
                  clear hcx hcr hmod hx0 hx1
                  refine wp_region_last (S := fun w' => Row w' T #[.int .u32 (ts : Int), .int .u32 0, .bool true, .slice ra rn rc, .slice sa sn sc] 39 ∧ w'.cell? ⟨N, q, none⟩ = some (.int .u32 nv)) 10 (by kernel_rfl) ⟨row, hcN⟩ fun hS => ?_
                  refine wpAnyL_take (i := 0) (v := .pointer (some ⟨T, 3, none⟩)) rfl (by kernel_rfl) (by kernel_rfl) (by kernel_rfl) (by kernel_rfl) (fun _ _ _ h => h) (Or.inl ⟨by rfl, fun w _ => by go_simp⟩) hS ?_
                  try simp only [Act.put, nz0, nz1, nz2, nz3, nz4, nz5]
                  refine wpAnyL_take (i := 1) (v := .slice ra rn rc) rfl (by kernel_rfl) (by kernel_rfl) (by kernel_rfl) (by kernel_rfl) (fun _ _ _ h => h) (Or.inl ⟨by rfl, fun w h => by have c := row_at h.1 3 _ rfl; go_simp⟩) hS ?_
                  try simp only [Act.put, nz0, nz1, nz2, nz3, nz4, nz5]
                  refine wpAnyL_take (i := 2) (v := .int .u16 (q : Int)) rfl (by kernel_rfl) (by kernel_rfl) (by kernel_rfl) (by kernel_rfl) (fun _ _ _ h => h) (Or.inl ⟨by rfl, fun w _ => by go_simp⟩) hS ?_
                  try simp only [Act.put, nz0, nz1, nz2, nz3, nz4, nz5]
                  refine wpAnyL_take (i := 3) (v := .int .u16 (q : Int)) rfl (by kernel_rfl) (by kernel_rfl) (by kernel_rfl) (by kernel_rfl) (fun _ _ _ h => h) (Or.inl ⟨by rfl, fun w _ => by go_simp⟩) hS ?_
                  try simp only [Act.put, nz0, nz1, nz2, nz3, nz4, nz5]
                  refine wpAnyL_take (i := 4) (v := .pointer (some ⟨N, q, none⟩)) rfl (by kernel_rfl) (by kernel_rfl) (by kernel_rfl) (by kernel_rfl) (fun _ _ _ h => h) (Or.inl ⟨by rfl, fun w _ => by go_simp⟩) hS ?_
                  try simp only [Act.put, nz0, nz1, nz2, nz3, nz4, nz5]
                  refine wpAnyL_take (i := 5) (v := .int .u32 nv) rfl (by kernel_rfl) (by kernel_rfl) (by kernel_rfl) (by kernel_rfl) (fun _ _ _ h => h) (Or.inl ⟨by rfl, fun w h => by have c := h.2; go_simp⟩) hS ?_
                  try simp only [Act.put, nz0, nz1, nz2, nz3, nz4, nz5]
                  refine wpAnyL_take (i := 6) (v := .agg #[.int .u16 (q : Int), .int .u32 nv]) rfl (by kernel_rfl) (by kernel_rfl) (by kernel_rfl) (by kernel_rfl) (fun _ _ _ h => h) (yields_build (by rfl) 46 #[(0, .tmp 59), (1, .tmp 62)] rfl [(0, .int .u16 (q : Int)), (1, .int .u32 nv)] (by rfl) _ (built46p _ _)) hS ?_
                  try simp only [Act.put, nz0, nz1, nz2, nz3, nz4, nz5]
                  refine wpAnyL_ready (rs := [7]) (by kernel_rfl) (by simp) ?_
                  have b4 : Below wx.heap.size wx (wx.alloc (.cells #[.int .u16 (q : Int), .int .u32 nv] 46)).drew := ((Below.refl _ _).alloc (Nat.le_refl _) _).drew
                  have hS4 := (show Row (wx.alloc (.cells #[.int .u16 (q : Int), .int .u32 nv] 46)).drew T #[.int .u32 (ts : Int), .int .u32 0, .bool true, .slice ra rn rc, .slice sa sn sc] 39 ∧ (wx.alloc (.cells #[.int .u16 (q : Int), .int .u32 nv] 46)).drew.cell? ⟨N, q, none⟩ = some (.int .u32 nv) from ⟨row.below b4 row.lt, cell_keep hcN b4⟩)
                  have HAP : Hid _ := fun ty => half_read (r := ⟨ra, rn, rc⟩) (s := ⟨sa, sn, sc⟩) (Nat.le_of_eq HT.out.symm) ROW.out OWN.out BEL.out (q : Int) nv HRLE.out ty
                  refine AllReadyL.cons rfl (fun K hK => step_of rfl (wp_seen (.tmp 63) rfl (q : Int) nv rfl (hK.out _ _ (fun _ => hS4) ?_))) AllReadyL.nil
                  try simp only [Act.put, nz0, nz1, nz2, nz3, nz4, nz5]
                  clear row hcN b4 hS
                  refine wpAnyL_ready (rs := [8]) (by kernel_rfl) (by simp) ?_
                  refine AllReadyL.cons rfl (fun K hK => step_of rfl (Us.wp_copy (.tmp 58) (.tmp 64) 36 rfl _ _ rfl rfl (T := fun v' w' => ∃ a n c, v' = Value.slice a n c ∧ Row w' T #[.int .u32 (ts : Int), .int .u32 0, .bool true, .slice ra rn rc, .slice sa sn sc] 39 ∧ Below T wo w' ∧ HalfP wo T ts 0 (rsK new (R0.take k) ++ [((q : Int), nv)]) (wsK (R1.take 0)) (w'.setCell ⟨T, 3, none⟩ (.slice a n c))) (fun ty => HAP.out ty) ?_)) AllReadyL.nil
                  rintro _ w5 ⟨a5, n5, c5, rfl, row5, bel5, hP5⟩
                  have hS5 := (show Row w5 T #[.int .u32 (ts : Int), .int .u32 0, .bool true, .slice ra rn rc, .slice sa sn sc] 39 ∧ w5.cell? ⟨N, q, none⟩ = some (.int .u32 nv) from ⟨row5, cell_keep (by rw [← HNV.out]; exact row_at HS.out.row q _ (newA_at new q hq4)) (by rw [← HT.out] at bel5; exact bel5)⟩)
                  have fz5 : w5.frozen? ⟨T, 3, none⟩ = false := row_frozen row5 3
                  have c53 : w5.cell? ⟨T, 3, none⟩ = some (.slice ra rn rc) := row_at row5 3 _ rfl
                  have HP5 : Hid (HalfP wo T ts 0 (rsK new (R0.take (k + 1))) (wsK (R1.take 0)) (w5.setCell ⟨T, 3, none⟩ (.slice a5 n5 c5))) := by show HalfP _ _ _ _ _ _ _; rw [rsK_succ HX.out.1, HX.out.2, HNV.out]; exact hP5
                  clear row5 bel5 hP5 HAP hS4
                  refine hK.out _ _ (fun _ => hS5) ?_
                  try simp only [Act.put, nz0, nz1, nz2, nz3, nz4, nz5]
                  refine wpAnyL_ready (rs := [9]) (by kernel_rfl) (by simp) ?_
                  refine AllReadyL.cons rfl (fun K hK => ?_) AllReadyL.nil
                  go_simp
                  refine hK.out _ _ (fun _ => hS5) ?_
                  try simp only [Act.put, nz0, nz1, nz2, nz3, nz4, nz5]
                  refine wpAnyL_ready (rs := [10]) (by kernel_rfl) (by simp) ?_
                  refine AllReadyL.cons rfl (fun K hK => ?_) AllReadyL.nil
                  clear hS5
                  go_simp
                  refine hK.out _ _ (fun q => absurd rfl q) ?_
                  try simp only [Act.put, nz0, nz1, nz2, nz3, nz4, nz5]
                  refine wpAnyL_done (by kernel_rfl) ?_ _
                  clear c53 fz5
                  go_wp2
                  go_roundw
                  case rel => exact ⟨k + 1, by go_num, by omega, by omega, HP5.out⟩
                  case measure => simp [intOf]; omega
                · have hk' : ¬ (k : Int) < 6 := by omega
                  have HF : Hid (HalfP wo T ts 0 (rsK new (R0.take 6)) (wsK (R1.take 0)) wx) := by show HalfP _ _ _ _ _ _ _; rw [← take_min R0 k (by rw [HLN0.out]; omega)]; exact HP.out
                  clear row own bel HP
                  go_wp2_with fail
                  go_meet
                  case rel => exact HF.out
              · have hlt' : ¬ (k : Int) < (ln0 : Int) := by omega
                have HF : Hid (HalfP wo T ts 0 (rsK new (R0.take 6)) (wsK (R1.take 0)) wx) := by show HalfP _ _ _ _ _ _ _; rw [← take_min R0 k (by rw [HLN0.out]; omega)]; exact HP.out
                clear row own bel HP
                go_wp2_with fail
                go_meet
                case rel => exact HF.out
          case rest =>
            clear hP
            rename World => wp
            have hP : HalfP wo T ts 0 (rsK new (R0.take 6)) (wsK (R1.take 0)) wp := hcut
            clear hcut
            go_upto_block 4 with fail
            go_cut [] from 67 to 93 (fun wx => HalfP wo T ts 0 (rsK new (R0.take 6)) (wsK (R1.take 6)) wx)
            case first =>
              go_wp2_with fail
              go_loopw [12] (fun q wx => ∃ k : Nat, q = .int .i64 (k : Int) ∧ k ≤ 6 ∧ k ≤ ln1 ∧ HalfP wo T ts 0 (rsK new (R0.take 6)) (wsK (R1.take k)) wx) (fun q _ => 7 - (intOf q).toNat)
              case atStart => exact ⟨0, rfl, Nat.zero_le _, Nat.zero_le _, hP⟩
              case round =>
                clear hP
                rename World => wx
                obtain ⟨k, rfl, hk6, hkr, hP⟩ := hrel
                have HP : Hid (HalfP wo T ts 0 (rsK new (R0.take 6)) (wsK (R1.take k)) wx) := hP
                obtain ⟨⟨ra, rn, rc⟩, ⟨sa, sn, sc⟩, row, own, bel⟩ := hP
                rw [← HT.out] at bel
                have hcr : wx.cell? (a1'.add i) = some (.slice o1 ln1 c1) := cell_keep (cell_keep HCL1.out HS.out.bel) bel
                by_cases hlt : k < ln1
                · have hlt' : (k : Int) < (ln1 : Int) := by omega
                  by_cases hk : k < 6
                  · have hk' : (k : Int) < 6 := by omega
                    have hk0 : (0 : Int) ≤ (k : Int) := by omega
                    obtain ⟨x, hx⟩ : ∃ x, R1[k]? = some x := ⟨_, List.getElem?_eq_getElem (by rw [HLN1.out]; exact hlt)⟩
                    obtain ⟨b1, rfl, hcx, hx0, hx1⟩ := HEL1.out k x hx
                    replace hcx := cell_keep (cell_keep hcx HS.out.bel) bel
                    obtain ⟨q, hq, hq4⟩ : ∃ q : Nat, x % 4 = (q : Int) ∧ q < 4 := ⟨(x % 4).toNat, by omega, by omega⟩
                    have hmod : Int.tmod x 4 = (q : Int) := by rw [Int.tmod_eq_emod_of_nonneg hx0]; exact hq
                    have hq0' : (0 : Int) ≤ (q : Int) := by omega
                    have hq4' : (q : Int) < 4 := by omega
                    have hwq : IntKind.u16.wrap (q : Int) = (q : Int) := by simp [IntKind.wrap, IntKind.bits, IntKind.signed]; omega
                    have HX : Hid (R1[k]? = some x ∧ x % 4 = (q : Int)) := ⟨hx, hq⟩
                    have ROW : Hid (Row wx T #[.int .u32 (ts : Int), .int .u32 0, .bool true, .slice ra rn rc, .slice sa sn sc] 39) := row
                    have OWN : Hid (Own1 wx T (half ts 0 (rsK new (R0.take 6)) (wsK (R1.take k)) ⟨ra, rn, rc⟩ ⟨sa, sn, sc⟩)) := own
                    have BEL : Hid (Below T wo wx) := by show Below T wo wx; rw [← HT.out]; exact bel
                    have HWLE : Hid ((wsK (R1.take k)).length ≤ 1000) := by show _ ≤ _; simp [wsK]; omega
                    clear hx hq own bel HP
                    go_upto_region 16 with fail
                    refine wp_region_last (S := fun w' => Row w' T #[.int .u32 (ts : Int), .int .u32 0, .bool true, .slice ra rn rc, .slice sa sn sc] 39 ∧ w'.cell? (a1'.add i) = some (.slice (some b1) ln1 c1) ∧ w'.cell? (b1.add k) = some (.int .u8 x)) 14 (by kernel_rfl) ⟨row, ⟨hcr, hcx⟩⟩ fun hS => ?_
                    refine wpAnyL_take (i := 0) (v := .pointer (some ⟨T, 4, none⟩)) rfl (by kernel_rfl) (by kernel_rfl) (by kernel_rfl) (by kernel_rfl) (fun _ _ _ h => h) (Or.inl ⟨by rfl, fun w _ => by go_simp⟩) hS ?_
                    try simp only [Act.put, nz0, nz1, nz2, nz3, nz4, nz5]
                    refine wpAnyL_take (i := 1) (v := .slice sa sn sc) rfl (by kernel_rfl) (by kernel_rfl) (by kernel_rfl) (by kernel_rfl) (fun _ _ _ h => h) (Or.inl ⟨by rfl, fun w h => by have c := row_at h.1 4 _ rfl; go_simp⟩) hS ?_
                    try simp only [Act.put, nz0, nz1, nz2, nz3, nz4, nz5]
                    refine wpAnyL_take (i := 2) (v := .slice (some a1') n1 cap1) rfl (by kernel_rfl) (by kernel_rfl) (by kernel_rfl) (by kernel_rfl) (fun _ _ _ h => h) (Or.inl ⟨by rfl, fun w _ => by go_simp⟩) hS ?_
                    try simp only [Act.put, nz0, nz1, nz2, nz3, nz4, nz5]
                    refine wpAnyL_take (i := 3) (v := .int .i64 (i : Int)) rfl (by kernel_rfl) (by kernel_rfl) (by kernel_rfl) (by kernel_rfl) (fun _ _ _ h => h) (Or.inl ⟨by rfl, fun w _ => by go_simp⟩) hS ?_
                    try simp only [Act.put, nz0, nz1, nz2, nz3, nz4, nz5]
                    refine wpAnyL_take (i := 4) (v := .pointer (some (a1'.add i))) rfl (by kernel_rfl) (by kernel_rfl) (by kernel_rfl) (by kernel_rfl) (fun _ _ _ h => h) (Or.inl ⟨by rfl, fun w _ => by go_simp⟩) hS ?_
                    try simp only [Act.put, nz0, nz1, nz2, nz3, nz4, nz5]
                    refine wpAnyL_take (i := 5) (v := .slice (some b1) ln1 c1) rfl (by kernel_rfl) (by kernel_rfl) (by kernel_rfl) (by kernel_rfl) (fun _ _ _ h => h) (Or.inl ⟨by rfl, fun w h => by have c := h.2.1; go_simp⟩) hS ?_
                    try simp only [Act.put, nz0, nz1, nz2, nz3, nz4, nz5]
                    refine wpAnyL_take (i := 6) (v := .int .i64 (k : Int)) rfl (by kernel_rfl) (by kernel_rfl) (by kernel_rfl) (by kernel_rfl) (fun _ _ _ h => h) (Or.inl ⟨by rfl, fun w _ => by go_simp⟩) hS ?_
                    try simp only [Act.put, nz0, nz1, nz2, nz3, nz4, nz5]
                    refine wpAnyL_take (i := 7) (v := .pointer (some (b1.add k))) rfl (by kernel_rfl) (by kernel_rfl) (by kernel_rfl) (by kernel_rfl) (fun _ _ _ h => h) (Or.inl ⟨by rfl, fun w _ => by go_simp⟩) hS ?_
                    try simp only [Act.put, nz0, nz1, nz2, nz3, nz4, nz5]
                    refine wpAnyL_take (i := 8) (v := .int .u8 x) rfl (by kernel_rfl) (by kernel_rfl) (by kernel_rfl) (by kernel_rfl) (fun _ _ _ h => h) (Or.inl ⟨by rfl, fun w h => by have c := h.2.2; go_simp⟩) hS ?_
                    try simp only [Act.put, nz0, nz1, nz2, nz3, nz4, nz5]
                    refine wpAnyL_take (i := 9) (v := .int .u8 (q : Int)) rfl (by kernel_rfl) (by kernel_rfl) (by kernel_rfl) (by kernel_rfl) (fun _ _ _ h => h) (Or.inl ⟨by rfl, fun w _ => by go_simp⟩) hS ?_
                    try simp only [Act.put, nz0, nz1, nz2, nz3, nz4, nz5]
                    refine wpAnyL_take (i := 10) (v := .int .u16 (q : Int)) rfl (by kernel_rfl) (by kernel_rfl) (by kernel_rfl) (by kernel_rfl) (fun _ _ _ h => h) (Or.inl ⟨by rfl, fun w _ => by go_simp⟩) hS ?_
                    try simp only [Act.put, nz0, nz1, nz2, nz3, nz4, nz5]
                    refine wpAnyL_ready (rs := [11]) (by kernel_rfl) (by simp) ?_
                    refine AllReadyL.cons rfl (fun K hK => ?_) AllReadyL.nil
                    have b4 : Below wx.heap.size wx (wx.alloc (.cells #[.int .u16 (q : Int)] 44)).drew := ((Below.refl _ _).alloc (Nat.le_refl _) _).drew
                    have hS4 := (show Row (wx.alloc (.cells #[.int .u16 (q : Int)] 44)).drew T #[.int .u32 (ts : Int), .int .u32 0, .bool true, .slice ra rn rc, .slice sa sn sc] 39 ∧ (wx.alloc (.cells #[.int .u16 (q : Int)] 44)).drew.cell? (a1'.add i) = some (.slice (some b1) ln1 c1) ∧ (wx.alloc (.cells #[.int .u16 (q : Int)] 44)).drew.cell? (b1.add k) = some (.int .u8 x) from ⟨row.below b4 row.lt, cell_keep hcr b4, cell_keep hcx b4⟩)
                    have HAP : Hid _ := fun ty => half_write (r := ⟨ra, rn, rc⟩) (s := ⟨sa, sn, sc⟩) (Nat.le_of_eq HT.out.symm) ROW.out OWN.out BEL.out (q : Int) HWLE.out ty
                    have HCR : Hid (wx.cell? (a1'.add i) = some (.slice (some b1) ln1 c1)) := hcr
                    have HCX : Hid (wx.cell? (b1.add k) = some (.int .u8 x)) := hcx
                    clear hcr hcx hmod hx0 hx1 row
                    go_simp
                    refine hK.out _ _ (fun _ => hS4) ?_
                    try simp only [Act.put, nz0, nz1, nz2, nz3, nz4, nz5]
                    clear b4 hS
                    refine wpAnyL_ready (rs := [12]) (by kernel_rfl) (by simp) ?_
                    refine AllReadyL.cons rfl (fun K hK => step_of rfl (Us.wp_copy (.tmp 81) (.tmp 91) 37 rfl _ _ rfl rfl (T := fun v' w' => ∃ a n c, v' = Value.slice a n c ∧ Row w' T #[.int .u32 (ts : Int), .int .u32 0, .bool true, .slice ra rn rc, .slice sa sn sc] 39 ∧ Below T wo w' ∧ HalfP wo T ts 0 (rsK new (R0.take 6)) (wsK (R1.take k) ++ [(q : Int)]) (w'.setCell ⟨T, 4, none⟩ (.slice a n c))) (fun ty => HAP.out ty) ?_)) AllReadyL.nil
                    rintro _ w5 ⟨a5, n5, c5, rfl, row5, bel5, hP5⟩
                    have hS5 := (show Row w5 T #[.int .u32 (ts : Int), .int .u32 0, .bool true, .slice ra rn rc, .slice sa sn sc] 39 ∧ w5.cell? (a1'.add i) = some (.slice (some b1) ln1 c1) ∧ w5.cell? (b1.add k) = some (.int .u8 x) from ⟨row5, cell_keep (cell_keep HCL1.out HS.out.bel) (by rw [← HT.out] at bel5; exact bel5), by
                      obtain ⟨b', e, h1, _, _⟩ := HEL1.out k x HX.out.1
                      cases e
                      exact cell_keep (cell_keep h1 HS.out.bel) (by rw [← HT.out] at bel5; exact bel5)⟩)
                    have fz5 : w5.frozen? ⟨T, 4, none⟩ = false := row_frozen row5 4
                    have c53 : w5.cell? ⟨T, 4, none⟩ = some (.slice sa sn sc) := row_at row5 4 _ rfl
                    have HP5 : Hid (HalfP wo T ts 0 (rsK new (R0.take 6)) (wsK (R1.take (k + 1))) (w5.setCell ⟨T, 4, none⟩ (.slice a5 n5 c5))) := by show HalfP _ _ _ _ _ _ _; rw [wsK_succ HX.out.1, HX.out.2]; exact hP5
                    clear row5 bel5 hP5 HAP hS4 HCR HCX
                    refine hK.out _ _ (fun _ => hS5) ?_
                    try simp only [Act.put, nz0, nz1, nz2, nz3, nz4, nz5]
                    refine wpAnyL_ready (rs := [13]) (by kernel_rfl) (by simp) ?_
                    refine AllReadyL.cons rfl (fun K hK => ?_) AllReadyL.nil
                    go_simp
                    refine hK.out _ _ (fun _ => hS5) ?_
                    try simp only [Act.put, nz0, nz1, nz2, nz3, nz4, nz5]
                    refine wpAnyL_ready (rs := [14]) (by kernel_rfl) (by simp) ?_
                    refine AllReadyL.cons rfl (fun K hK => ?_) AllReadyL.nil
                    clear hS5
                    go_simp
                    refine hK.out _ _ (fun q => absurd rfl q) ?_
                    try simp only [Act.put, nz0, nz1, nz2, nz3, nz4, nz5]
                    refine wpAnyL_done (by kernel_rfl) ?_ _
                    clear c53 fz5
                    go_wp2
                    go_roundw
                    case rel => exact ⟨k + 1, by go_num, by omega, by omega, HP5.out⟩
                    case measure => simp [intOf]; omega
                  · have hk' : ¬ (k : Int) < 6 := by omega
                    have HF : Hid (HalfP wo T ts 0 (rsK new (R0.take 6)) (wsK (R1.take 6)) wx) := by show HalfP _ _ _ _ _ _ _; rw [← take_min R1 k (by rw [HLN1.out]; omega)]; exact HP.out
                    clear row own bel HP
                    go_wp2_with fail
                    go_meet
                    case rel => exact HF.out
                · have hlt' : ¬ (k : Int) < (ln1 : Int) := by omega
                  have HF : Hid (HalfP wo T ts 0 (rsK new (R0.take 6)) (wsK (R1.take 6)) wx) := by show HalfP _ _ _ _ _ _ _; rw [← take_min R1 k (by rw [HLN1.out]; omega)]; exact HP.out
                  clear row own bel HP
                  go_wp2_with fail
                  go_meet
                  case rel => exact HF.out
            case rest =>
              rename World => wz
              obtain ⟨⟨ra, rn, rc⟩, ⟨sa, sn, sc⟩, row, own, bel⟩ := hcut
              have HRD : Hid (∀ v ∈ rsK new (R0.take 6), v.2 = new v.1) := fun v hv => by
                obtain ⟨x, _, rfl⟩ := List.mem_map.1 hv
                rfl
              have HRF : Hid ((∀ v ∈ rsK new (R0.take 6), (0 ≤ v.1 ∧ v.1 ≤ 65535) ∧ 0 ≤ v.2 ∧ v.2 ≤ 4294967295) ∧ (rsK new (R0.take 6)).length ≤ 1000) := ⟨fun v hv => by
                obtain ⟨x, _, rfl⟩ := List.mem_map.1 hv
                have := HI.out.newb (x % 4)
                exact ⟨⟨by show 0 ≤ x % 4; omega, by show x % 4 ≤ _; omega⟩, this.1, by show new (x % 4) ≤ _; omega⟩, by simp [rsK]; omega⟩
              have HWF : Hid ((∀ x ∈ wsK (R1.take 6), 0 ≤ x ∧ x < 4) ∧ (wsK (R1.take 6)).length ≤ 6) := ⟨fun v hv => by
                obtain ⟨x, _, rfl⟩ := List.mem_map.1 hv
                exact ⟨by show 0 ≤ x % 4; omega, by show x % 4 < _; omega⟩, by simp [wsK]; omega⟩
              obtain ⟨RS, HRS⟩ : ∃ RS, Hid (rsK new (R0.take 6) = RS) := ⟨_, rfl⟩
              obtain ⟨WS, HWS⟩ : ∃ WS, Hid (wsK (R1.take 6) = WS) := ⟨_, rfl⟩
              rw [HRS.out, HWS.out] at own
              rw [HRS.out] at HRD HRF
              rw [HWS.out] at HWF
              clear hP HEL0 HEL1 HCL0 HCL1 HLN0 HLN1 HRS HWS hq0 hq1
              rw [← HT.out] at bel
              have hSz : SerS w N B v' al new wz := HS.out.below bel
              rw [HT.out] at bel
              obtain ⟨hsn, hpg⟩ := own_page own.ws
              have hsn : sn = WS.length := hsn
              have c4 : wz.cell? ⟨T, 4, none⟩ = some (.slice sa sn sc) := row_at row 4 _ rfl
              by_cases hwe : sn = 0
              · subst hwe
                have HWE : Hid (WS = []) := List.eq_nil_of_length_eq_zero hsn.symm
                have HFIT : Hid (half ts 0 RS WS ⟨ra, rn, rc⟩ ⟨sa, 0, sc⟩).p.Fit := ⟨⟨by show (0 : Int) ≤ (ts : Int); omega, by show (ts : Int) ≤ _; omega⟩, ⟨Int.le_refl _, by show (0 : Int) ≤ _; decide⟩, HRF.out.1, fun x hx => by have := HWF.out.1 x hx; omega, HRF.out.2, by have := HWF.out.2; show WS.length ≤ _; omega⟩
                clear hsn hpg
                have HT1 : Hid (B ≤ T) := hBT
                have k11 : Row wz T (Pa.O.arr ⟨(ts : Int), 0, true, ⟨ra, rn, rc⟩, ⟨sa, 0, sc⟩⟩) 39 := row
                have hcT := Pa.O.row_cells k11
                have rZ : Row (wz.alloc (.cells (Pa.O.arr ⟨(ts : Int), 0, true, ⟨ra, rn, rc⟩, ⟨sa, 0, sc⟩⟩) 39)) wz.heap.size (Pa.O.arr ⟨(ts : Int), 0, true, ⟨ra, rn, rc⟩, ⟨sa, 0, sc⟩⟩) 39 := Row.new _ _ _
                have b12 : Below wz.heap.size wz (wz.alloc (.cells (Pa.O.arr ⟨(ts : Int), 0, true, ⟨ra, rn, rc⟩, ⟨sa, 0, sc⟩⟩) 39)) := (Below.refl _ _).alloc (Nat.le_refl _) _
                have HS12 : Hid (SerS w N B v' al new (wz.alloc (.cells (Pa.O.arr ⟨(ts : Int), 0, true, ⟨ra, rn, rc⟩, ⟨sa, 0, sc⟩⟩) 39))) := hSz.below b12
                have HO12 : Hid (Own1 (wz.alloc (.cells (Pa.O.arr ⟨(ts : Int), 0, true, ⟨ra, rn, rc⟩, ⟨sa, 0, sc⟩⟩) 39)) B (half ts 0 RS WS ⟨ra, rn, rc⟩ ⟨sa, 0, sc⟩)) := (own.keep b12).base HT1.out
                have HAP : Hid (∀ ty, ∃ v'' w'', (Builtin.append_ #[22, 22] ty #[v', .slice (some ⟨wz.heap.size, 0, none⟩) 1 1]).run Try.prog (wz.alloc (.cells (Pa.O.arr ⟨(ts : Int), 0, true, ⟨ra, rn, rc⟩, ⟨sa, 0, sc⟩⟩) 39)) = .ok v'' w'' ∧ AllS w'' B v'' (al ++ [half ts 0 RS WS ⟨ra, rn, rc⟩ ⟨sa, 0, sc⟩]) ∧ Off (fun g => v'.ownBlock = some g) (wz.alloc (.cells (Pa.O.arr ⟨(ts : Int), 0, true, ⟨ra, rn, rc⟩, ⟨sa, 0, sc⟩⟩) 39)) w'') := fun ty => by
                  obtain ⟨v'', w'', h1, h2, h3, _⟩ := HS12.out.all.snoc HO12.out HFIT.out (by have := HAL.out; omega) (Nat.le_trans HT1.out (Nat.le_of_lt (k11.below b12 k11.lt).lt)) ty _ rZ
                  exact ⟨v'', w'', h1, h2, h3⟩
                clear rZ b12 k11 row own hSz
                go_wp2_with (first
                  | (refine wpList_load_any rfl 39 (.tmp 9) rfl ⟨T, 0, none⟩ rfl (Pa.O.cells ⟨(ts : Int), 0, true, ⟨ra, rn, rc⟩, ⟨sa, 0, sc⟩⟩) _ hcT Try.underlying39 rfl Pa.size39 ?_; clear hcT)
                  | (refine wpList_one rfl (.tmp 114) rfl ⟨(ts : Int), 0, true, ⟨ra, rn, rc⟩, ⟨sa, 0, sc⟩⟩ rfl ?_)
                  | (refine Pa.wpList_copy rfl (.tmp 113) (.tmp 115) 22 rfl v' (.slice (some ⟨wz.heap.size, 0, none⟩) 1 1) rfl rfl HAP.out ?_
                     clear HAP
                     generalize wz.alloc (.cells (Pa.O.arr ⟨(ts : Int), 0, true, ⟨ra, rn, rc⟩, ⟨sa, 0, sc⟩⟩) 39) = w12 at HS12 HO12
                     rintro v13 w13 ⟨hn13, Ou⟩
                     have hge : ∀ g, v'.ownBlock = some g → B ≤ g := fun g hg => (World.ownsRow.lt HS12.out.all.own g hg).1
                     have HS13 : Hid (SerS w N B v13 (al ++ [half ts 0 RS WS ⟨ra, rn, rc⟩ ⟨sa, 0, sc⟩]) new w13) := ⟨HS12.out.row.off Ou (fun e => by have := hge N e; have := HNB.out; omega), hn13, below_off HS12.out.bel Ou (fun g hg => by have := hge g hg; have := HNB.out; omega)⟩
                     clear hn13 Ou hge HS12 HO12))
                go_roundw
                case rel => exact ⟨v13, ts, i + 1, _, _, rfl, by go_num, by go_num, by omega, by omega, by simp; have := HAL.out; omega, HI.out.snoc (half ts 0 RS WS ⟨ra, rn, rc⟩ ⟨sa, 0, sc⟩) rfl rfl HRD.out (fun q => absurd HWE.out q) (fun p => by show new p = if p ∈ WS then _ else _; rw [HWE.out]; simp) (by show _ = if WS = [] then _ else _; rw [if_pos HWE.out]), HS13.out⟩
                case measure => simp [intOf]; omega
              · have hwp : 0 < sn := by omega
                have hwp' : (0 : Int) < (sn : Int) := by omega
                have HWE : Hid (WS ≠ []) := fun e => by rw [e] at hsn; simp at hsn; omega
                have HFIT : Hid (half ts ((ts : Int) + 1) RS WS ⟨ra, rn, rc⟩ ⟨sa, sn, sc⟩).p.Fit := ⟨⟨by show (0 : Int) ≤ (ts : Int); omega, by show (ts : Int) ≤ _; omega⟩, ⟨by show (0 : Int) ≤ (ts : Int) + 1; omega, by show (ts : Int) + 1 ≤ _; omega⟩, HRF.out.1, fun x hx => by have := HWF.out.1 x hx; omega, HRF.out.2, by have := HWF.out.2; show WS.length ≤ _; omega⟩
                have hwr : IntKind.u32.wrap ((ts : Int) + 1) = (ts : Int) + 1 := by rw [IntKind.wrap_u32']; omega
                have fz1 : wz.frozen? ⟨T, 1, none⟩ = false := row_frozen row 1
                have c1z : wz.cell? ⟨T, 1, none⟩ = some (.int .u32 0) := row_at row 1 _ rfl
                obtain ⟨row2, own2, bel2⟩ := half_commit (r := ⟨ra, rn, rc⟩) (s := ⟨sa, sn, sc⟩) (Nat.le_of_eq HT.out.symm) row own bel ((ts : Int) + 1)
                have hS2 : SerS w N B v' al new (wz.setCell ⟨T, 1, none⟩ (.int .u32 ((ts : Int) + 1))) := HS.out.below (by rw [← HT.out] at bel2 ⊢; exact bel2)
                have HSN : Hid (sn = WS.length) := hsn
                clear hpg row own hSz bel bel2 hsn
                go_upto_region 21 with fail
                generalize wz.setCell ⟨T, 1, none⟩ (.int .u32 ((ts : Int) + 1)) = w2 at row2 own2 hS2 ⊢
                clear c4 fz1 c1z hwr
                go_loopw [105] (fun q wz => ∃ j : Nat, q = .int .i64 (j : Int) ∧ j ≤ sn ∧ SerS w N B v' al (newJ new ((ts : Int) + 1) WS j) wz ∧ Row wz T #[.int .u32 (ts : Int), .int .u32 ((ts : Int) + 1), .bool true, .slice ra rn rc, .slice sa sn sc] 39 ∧ Own1 wz T (half ts ((ts : Int) + 1) RS WS ⟨ra, rn, rc⟩ ⟨sa, sn, sc⟩)) (fun q _ => 7 - (intOf q).toNat)
                case atStart => exact ⟨0, rfl, Nat.zero_le _, by rw [newJ_zero]; exact hS2, row2, own2⟩
                case round =>
                  clear row2 own2 hS2
                  rename World => wz
                  obtain ⟨j, rfl, hj, hSz, row, own⟩ := hrel
                  by_cases hlt : j < sn
                  · have hlt' : (j : Int) < (sn : Int) := by omega
                    have hj0 : (0 : Int) ≤ (j : Int) := by omega
                    have hs6 : sn ≤ 6 := by rw [HSN.out]; exact HWF.out.2
                    obtain ⟨x, hx⟩ : ∃ x, WS[j]? = some x := ⟨_, List.getElem?_eq_getElem (by rw [← HSN.out]; exact hlt)⟩
                    obtain ⟨b, hsa, hcx⟩ := (own_page own.ws).2 j x hx
                    have hsa : sa = some b := hsa
                    subst hsa
                    obtain ⟨q, rfl, hq4⟩ : ∃ q : Nat, x = (q : Int) ∧ q < 4 := ⟨x.toNat, by have := HWF.out.1 x (List.mem_of_getElem? hx); omega, by have := HWF.out.1 x (List.mem_of_getElem? hx); omega⟩
                    have hq0' : (0 : Int) ≤ (q : Int) := by omega
                    have hq4' : (q : Int) < 4 := by omega
                    have fzN : wz.frozen? ⟨N, q, none⟩ = false := row_frozen hSz.row q
                    have cN : wz.cell? ⟨N, q, none⟩ = some (.int .u32 (newJ new ((ts : Int) + 1) WS j (q : Int))) := row_at hSz.row q _ (newA_at _ q hq4)
                    have oN : Off (· = N) wz (wz.setCell ⟨N, q, none⟩ (.int .u32 ((ts : Int) + 1))) := Off.of_setCell _ _ _ rfl
                    have HS3 : Hid (SerS w N B v' al (newJ new ((ts : Int) + 1) WS (j + 1)) (wz.setCell ⟨N, q, none⟩ (.int .u32 ((ts : Int) + 1)))) := hSz.put HNB.out.1 HNB.out.2.1 q hq4 _ (by rw [newJ_succ hx])
                    have HR3 : Hid (Row (wz.setCell ⟨N, q, none⟩ (.int .u32 ((ts : Int) + 1))) T #[.int .u32 (ts : Int), .int .u32 ((ts : Int) + 1), .bool true, .slice ra rn rc, .slice (some b) sn sc] 39) := row.off oN (fun e => by have := HNB.out; omega)
                    have HO3 : Hid (Own1 (wz.setCell ⟨N, q, none⟩ (.int .u32 ((ts : Int) + 1))) T (half ts ((ts : Int) + 1) RS WS ⟨ra, rn, rc⟩ ⟨some b, sn, sc⟩)) := own.off oN (fun k hk _ e => by have := HNB.out; omega)
                    clear hx row own hSz oN
                    go_wp2
                    go_roundw
                    case rel => exact ⟨j + 1, by go_num, by omega, HS3.out, HR3.out, HO3.out⟩
                    case measure => simp [intOf]; omega
                  · have hlt' : ¬ (j : Int) < (sn : Int) := by omega
                    obtain rfl : j = sn := by omega
                    have HT1 : Hid (B ≤ T) := hBT
                    have k11 : Row wz T (Pa.O.arr ⟨(ts : Int), ((ts : Int) + 1), true, ⟨ra, rn, rc⟩, ⟨sa, j, sc⟩⟩) 39 := row
                    have hcT := Pa.O.row_cells k11
                    have rZ : Row (wz.alloc (.cells (Pa.O.arr ⟨(ts : Int), ((ts : Int) + 1), true, ⟨ra, rn, rc⟩, ⟨sa, j, sc⟩⟩) 39)) wz.heap.size (Pa.O.arr ⟨(ts : Int), ((ts : Int) + 1), true, ⟨ra, rn, rc⟩, ⟨sa, j, sc⟩⟩) 39 := Row.new _ _ _
                    have b12 : Below wz.heap.size wz (wz.alloc (.cells (Pa.O.arr ⟨(ts : Int), ((ts : Int) + 1), true, ⟨ra, rn, rc⟩, ⟨sa, j, sc⟩⟩) 39)) := (Below.refl _ _).alloc (Nat.le_refl _) _
                    have HS12 : Hid (SerS w N B v' al (newJ new ((ts : Int) + 1) WS j) (wz.alloc (.cells (Pa.O.arr ⟨(ts : Int), ((ts : Int) + 1), true, ⟨ra, rn, rc⟩, ⟨sa, j, sc⟩⟩) 39))) := hSz.below b12
                    have HO12 : Hid (Own1 (wz.alloc (.cells (Pa.O.arr ⟨(ts : Int), ((ts : Int) + 1), true, ⟨ra, rn, rc⟩, ⟨sa, j, sc⟩⟩) 39)) B (half ts ((ts : Int) + 1) RS WS ⟨ra, rn, rc⟩ ⟨sa, j, sc⟩)) := (own.keep b12).base HT1.out
                    have HAP : Hid (∀ ty, ∃ v'' w'', (Builtin.append_ #[22, 22] ty #[v', .slice (some ⟨wz.heap.size, 0, none⟩) 1 1]).run Try.prog (wz.alloc (.cells (Pa.O.arr ⟨(ts : Int), ((ts : Int) + 1), true, ⟨ra, rn, rc⟩, ⟨sa, j, sc⟩⟩) 39)) = .ok v'' w'' ∧ AllS w'' B v'' (al ++ [half ts ((ts : Int) + 1) RS WS ⟨ra, rn, rc⟩ ⟨sa, j, sc⟩]) ∧ Off (fun g => v'.ownBlock = some g) (wz.alloc (.cells (Pa.O.arr ⟨(ts : Int), ((ts : Int) + 1), true, ⟨ra, rn, rc⟩, ⟨sa, j, sc⟩⟩) 39)) w'') := fun ty => by
                      obtain ⟨v'', w'', h1, h2, h3, _⟩ := HS12.out.all.snoc HO12.out HFIT.out (by have := HAL.out; omega) (Nat.le_trans HT1.out (Nat.le_of_lt (k11.below b12 k11.lt).lt)) ty _ rZ
                      exact ⟨v'', w'', h1, h2, h3⟩
                    clear rZ b12 k11 row own hSz
                    go_wp2_with (first
                      | (refine wpList_load_any rfl 39 (.tmp 9) rfl ⟨T, 0, none⟩ rfl (Pa.O.cells ⟨(ts : Int), ((ts : Int) + 1), true, ⟨ra, rn, rc⟩, ⟨sa, j, sc⟩⟩) _ hcT Try.underlying39 rfl Pa.size39 ?_; clear hcT)
                      | (refine wpList_one rfl (.tmp 114) rfl ⟨(ts : Int), ((ts : Int) + 1), true, ⟨ra, rn, rc⟩, ⟨sa, j, sc⟩⟩ rfl ?_)
                      | (refine Pa.wpList_copy rfl (.tmp 113) (.tmp 115) 22 rfl v' (.slice (some ⟨wz.heap.size, 0, none⟩) 1 1) rfl rfl HAP.out ?_
                         clear HAP
                         generalize wz.alloc (.cells (Pa.O.arr ⟨(ts : Int), ((ts : Int) + 1), true, ⟨ra, rn, rc⟩, ⟨sa, j, sc⟩⟩) 39) = w12 at HS12 HO12
                         rintro v13 w13 ⟨hn13, Ou⟩
                         have hge : ∀ g, v'.ownBlock = some g → B ≤ g := fun g hg => (World.ownsRow.lt HS12.out.all.own g hg).1
                         have HS13 : Hid (SerS w N B v13 (al ++ [half ts ((ts : Int) + 1) RS WS ⟨ra, rn, rc⟩ ⟨sa, j, sc⟩]) (newJ new ((ts : Int) + 1) WS j) w13) := ⟨HS12.out.row.off Ou (fun e => by have := hge N e; have := HNB.out; omega), hn13, below_off HS12.out.bel Ou (fun g hg => by have := hge g hg; have := HNB.out; omega)⟩
                         clear hn13 Ou hge HS12 HO12))
                    go_roundw
                    case rel => exact ⟨v13, ts + 1, i + 1, _, _, rfl, by go_num, by go_num, by omega, by omega, by simp; have := HAL.out; omega, HI.out.snoc (half ts ((ts : Int) + 1) RS WS ⟨ra, rn, rc⟩ ⟨sa, j, sc⟩) rfl rfl HRD.out (fun _ => rfl) (fun p => by rw [HSN.out]; exact newJ_all new _ WS p) (by show _ = if WS = [] then _ else _; rw [if_neg HWE.out]; omega), HS13.out⟩
                    case measure => simp [intOf]; omega
        · have h9' : ¬ (i : Int) < 9 := by omega
          have hh := hS.all.helds
          have hck := check_any hh (by rw [HAL.out]; omega) (Nat.le_trans (List.length_filter_le _ _) (by rw [HAL.out]; omega))
          have HZ : Hid (∀ e w', Checked wo al e w' → e = .returned (.tuple #[.int .u8 0, .int .i64 0]) ∧ Below wo.heap.size wo w') := fun e w' q => ⟨by
            rcases q.2 with ⟨q1, _⟩ | ⟨_, x, e1, e2⟩
            · rw [hI.isH] at q1; cases q1
            · rw [e1, hI.zero e2], q.1⟩
          generalize Checked wo al = CC at hck HZ
          have HBR : Hid (Below w.heap.size w wo) := hS.bel
          clear hh hI hS
          go_wp2_with (first
            | (go_at_call 11; refine hck.mono ?_; clear hck; intro e w9 hq; obtain ⟨he, hb9⟩ := HZ.out _ _ hq; obtain rfl := he; clear hq; have HB9 : Hid (Below w.heap.size w w9) := below_trans HBR.out hb9; have haw := HAW.out w9; clear hb9)
            | (go_at_call 14; refine haw.mono ?_; clear haw; rintro e w10 ⟨he, hb10⟩; obtain rfl := he; have hfin := HFO.out w10 (below_trans HB9.out hb10); clear hb10))
          exact hfin
      · have h1' : ¬ (i : Int) < (n1 : Int) := by omega
        have hh := hS.all.helds
        have hck := check_any hh (by rw [HAL.out]; omega) (Nat.le_trans (List.length_filter_le _ _) (by rw [HAL.out]; omega))
        have HZ : Hid (∀ e w', Checked wo al e w' → e = .returned (.tuple #[.int .u8 0, .int .i64 0]) ∧ Below wo.heap.size wo w') := fun e w' q => ⟨by
          rcases q.2 with ⟨q1, _⟩ | ⟨_, x, e1, e2⟩
          · rw [hI.isH] at q1; cases q1
          · rw [e1, hI.zero e2], q.1⟩
        generalize Checked wo al = CC at hck HZ
        have HBR : Hid (Below w.heap.size w wo) := hS.bel
        clear hh hI hS
        go_wp2_with (first
          | (go_at_call 11; refine hck.mono ?_; clear hck; intro e w9 hq; obtain ⟨he, hb9⟩ := HZ.out _ _ hq; obtain rfl := he; clear hq; have HB9 : Hid (Below w.heap.size w w9) := below_trans HBR.out hb9; have haw := HAW.out w9; clear hb9)
          | (go_at_call 14; refine haw.mono ?_; clear haw; rintro e w10 ⟨he, hb10⟩; obtain rfl := he; have hfin := HFO.out w10 (below_trans HB9.out hb10); clear hb10))
        exact hfin
    · have h0' : ¬ (i : Int) < (n0 : Int) := by omega
      have hh := hS.all.helds
      have hck := check_any hh (by rw [HAL.out]; omega) (Nat.le_trans (List.length_filter_le _ _) (by rw [HAL.out]; omega))
      have HZ : Hid (∀ e w', Checked wo al e w' → e = .returned (.tuple #[.int .u8 0, .int .i64 0]) ∧ Below wo.heap.size wo w') := fun e w' q => ⟨by
        rcases q.2 with ⟨q1, _⟩ | ⟨_, x, e1, e2⟩
        · rw [hI.isH] at q1; cases q1
        · rw [e1, hI.zero e2], q.1⟩
      generalize Checked wo al = CC at hck HZ
      have HBR : Hid (Below w.heap.size w wo) := hS.bel
      clear hh hI hS
      go_wp2_with (first
        | (go_at_call 11; refine hck.mono ?_; clear hck; intro e w9 hq; obtain ⟨he, hb9⟩ := HZ.out _ _ hq; obtain rfl := he; clear hq; have HB9 : Hid (Below w.heap.size w w9) := below_trans HBR.out hb9; have haw := HAW.out w9; clear hb9)
        | (go_at_call 14; refine haw.mono ?_; clear haw; rintro e w10 ⟨he, hb10⟩; obtain rfl := he; have hfin := HFO.out w10 (below_trans HB9.out hb10); clear hb10))
      exact hfin
set_option maxRecDepth 100000 in
theorem lifted (os : Os) (started : os.Started) (H : Type) (enc : TypeId × Value → H) :
    ReturnsInHanded {} Try.checked os 6 .any (Rows.histSerialSpec.pre6 enc Try.prog Try.f6 Rows.histSerialRow.domain false) (Rows.histSerialSpec.post enc Try.prog Try.f6 false true false false) := by
  refine returnsInHanded_of_change_sized (C := Try.checked) own started (by kernel_rfl) Try.func6
    (ChangeSpec.witness6 (enc := enc) (C := Try.checked) false ⟨#[], #[.slice none 0 0, .slice none 0 0], []⟩ 8 (by kernel_rfl) (by kernel_rfl) (by kernel_rfl) (by kernel_rfl)) ?_
  intro W base args ds gs before hval0 hW hcnd hsz0 _
  have hval : ∀ (j : Nat) t v, Try.f6.params[j]? = some t → args[j]? = some v → Value.okWide Try.prog W .any base t v := hval0
  have hW' := hW
  obtain ⟨p, q, hA0, hV, rfl, hfz, hnd⟩ := hW
  have hA : DataW.TrodAll enc Try.prog W 0 (fun _ => true) true Try.f6.params.toList args.toList ds p := hA0
  have hsz : (DataW.weightsEach Try.prog (Try.f6.params.toList ++ []) (ds ++ gs)).all (· ≤ reachBytes) = true := hsz0
  rw [Try.params6] at hA hval hsz
  obtain ⟨v0, vs0, d0, ds0, p0, q0, hargs, rfl, rfl, h0, r0⟩ := trodAll_cons hA
  obtain ⟨v1, vs1, d1, ds1, p1, q1, rfl, rfl, rfl, h1, r1⟩ := trodAll_cons r0
  obtain ⟨rfl, rfl, rfl⟩ := trodAll_nil r1
  obtain rfl : args = #[v0, v1] := by cases args; simp_all
  obtain ⟨rfl, rfl⟩ := trodVars_none hV
  simp only [List.append_nil] at hsz
  have hlt : ∀ x ∈ (p0 ++ (p1 ++ [])), x.block < W.heap.size := fun x hx => hW'.lt x (by simpa using hx)
  have hw0 : (d0.weights Try.prog 41).all (· ≤ reachBytes) = true := List.all_eq_true.2 fun m hm => List.all_eq_true.1 hsz m (by simp [DataW.weightsEach, hm])
  have hw1 : (d1.weights Try.prog 41).all (· ≤ reachBytes) = true := List.all_eq_true.2 fun m hm => List.all_eq_true.1 hsz m (by simp [DataW.weightsEach, hm])
  have k0 := h0
  have k1 := h1
  obtain ⟨a0, w0⟩ := open_rows8 (hval 0 41 v0 rfl rfl) h0 hw0
  obtain ⟨a1, w1⟩ := open_rows8 (hval 1 41 v1 rfl rfl) h1 hw1
  clear hA0 hval0
  simp only [List.append_nil] at hW'
  refine (walk W v0 a0 v1 a1 w0 w1).mono fun e W' ⟨he, hg⟩ => ?_
  subst he
  exact ⟨_, rfl, ⟨_, _, _, [], (p0 ++ (p1 ++ [])), [], hW', (trodAll_cons_mk (shut_bool Try.underlying4 _) trodAll_mk0), (trodAll_cons_mk (Below.trod laidD (by kernel_rfl) (of_decide_eq_true (by kernel_rfl)) k0 hg (fun x hx => hlt x (by simp [hx]))) (trodAll_cons_mk (Below.trod laidD (by kernel_rfl) (of_decide_eq_true (by kernel_rfl)) k1 hg (fun x hx => hlt x (by simp [hx]))) trodAll_mk0)), rfl,
    hg.frame _, fun h => by cases h⟩⟩
theorem over : Rows.histSerialRow.holds Try.pinned (OpenSpec.ofChange Rows.histSerialSpec) :=
  OpenClaim.holds_of_wide 6 Try.f6 rfl rfl rfl rfl rfl rfl rfl ⟨rfl, rfl, rfl, rfl, rfl⟩ rfl rfl rfl rfl rfl (by kernel_rfl) Try.func6 (by kernel_rfl)
    (of_decide_eq_true (by kernel_rfl)) (by unfold Func.isWrapper; first | (rw [if_pos (by decide +kernel)]; kernel_rfl) | (rw [if_neg (by decide +kernel)]; exact ⟨rfl, rfl⟩))
    (fun os started H enc _ => lifted os started H enc)
theorem proved : Rows.HistSerialSaid :=
  over
#print axioms proved
end Go.Proofs.Ytdlllnkcjfpajaa.histSerial
