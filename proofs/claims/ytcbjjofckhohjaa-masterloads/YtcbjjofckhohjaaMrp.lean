/-
  Proved here: the document's Pack of a master.
-/
import Derived.Test.YtcbjjofckhohjaaMaw
namespace Go.Proofs.Ytcbjjofckhohjaa
open Go.ChangeShapes Go.WideShapes Go.ChangeAt Go.RowKit
set_option linter.unusedVariables false
set_option linter.unusedSimpArgs false
set_option maxRecDepth 20000

theorem upto_pad (T : List Int) (h : T.length ≤ 224) : upto 224 (fun i => T.getD i 0) T.length = padT T := by
  symm
  apply eq_fl _ _ _ (padT_length T h)
  intro j hj
  rw [padT_at T h]
  split
  · rfl
  · rw [getD_none (by omega)]

/-- A master's numbers, how wide each is, and the text while they are laid. -/
def vsM (m : M) : List Int := [m.seq, m.ep, m.tail, m.lsn, m.last, m.pg, m.un, m.lg, m.mx]
def nsM : List Nat := [8, 4, 4, 8, 4, 2, 2, 2, 4]
def hdN (m : M) : Nat → List Int
  | 0 => [118, 97, 114, 118, 101, 49]
  | k + 1 => hdN m k ++ low ((vsM m).getD k 0) (nsM.getD k 0)
theorem hdN_nine (m : M) : hdN m 9 = headT m := rfl
theorem ns_le (k : Nat) : nsM.getD k 0 ≤ 8 := by
  match k with
  | 0 | 1 | 2 | 3 | 4 | 5 | 6 | 7 | 8 => decide
  | k + 9 => simp [nsM]
theorem hdN_length (m : M) : ∀ k, (hdN m k).length ≤ 6 + 8 * k
  | 0 => by simp [hdN]
  | k + 1 => by
    have := hdN_length m k
    have := ns_le k
    simp only [hdN, List.length_append, low_length]
    omega
theorem vs_fit (m : M) (hf : m.Fit) (hm : mayM m = true) (k : Nat) : 0 ≤ (vsM m).getD k 0 ∧ (vsM m).getD k 0 ≤ 18446744073709551615 := by
  obtain ⟨m1, m2, m3, m4⟩ := mayM_of hm
  have g0 := hf.seq
  have g1 := hf.ep
  have g2 := hf.tail
  have g3 := hf.lsn
  have g4 := hf.last
  have g8 := hf.mx
  match k with
  | 0 => exact g0
  | 1 => show 0 ≤ m.ep ∧ _; exact ⟨g1.1, by show m.ep ≤ _; omega⟩
  | 2 => exact ⟨g2.1, by show m.tail ≤ _; omega⟩
  | 3 => exact g3
  | 4 => exact ⟨g4.1, by show m.last ≤ _; omega⟩
  | 5 => exact ⟨by show 0 ≤ m.pg; omega, by show m.pg ≤ _; omega⟩
  | 6 => exact ⟨by show 0 ≤ m.un; omega, by show m.un ≤ _; omega⟩
  | 7 => exact ⟨by show 0 ≤ m.lg; omega, by show m.lg ≤ _; omega⟩
  | 8 => exact ⟨g8.1, by show m.mx ≤ _; omega⟩
  | k + 9 => simp [vsM]
theorem vs_at (m : M) (k : Nat) (h : k < 9) : (#[.int .u64 m.seq, .int .u64 m.ep, .int .u64 m.tail, .int .u64 m.lsn, .int .u64 m.last, .int .u64 m.pg, .int .u64 m.un, .int .u64 m.lg, .int .u64 m.mx] : Array Value)[k]? = some (.int .u64 ((vsM m).getD k 0)) := by
  match k, h with
  | 0, _ | 1, _ | 2, _ | 3, _ | 4, _ | 5, _ | 6, _ | 7, _ | 8, _ => rfl
theorem ns_at (k : Nat) (h : k < 9) : (#[.int .i64 8, .int .i64 4, .int .i64 4, .int .i64 8, .int .i64 4, .int .i64 2, .int .i64 2, .int .i64 2, .int .i64 4] : Array Value)[k]? = some (.int .i64 ((nsM.getD k 0 : Nat) : Int)) := by
  match k, h with
  | 0, _ | 1, _ | 2, _ | 3, _ | 4, _ | 5, _ | 6, _ | 7, _ | 8, _ => rfl

set_option maxHeartbeats 4000000 in
theorem rpack_any (m : M) (hf : m.Fit) (w : World) : Calls Try.prog 9 #[.agg (mcells m)] w fun ex w' => ex = .returned (.tuple #[.agg (bs (packV m)), .bool (mayM m)]) ∧ Below w.heap.size w w' := by
  have hz1 := zero29
  have hz2 := zero56
  have f1 := hf.seq
  have PM : Hid _ := fun w => rmay_any m w
  have r0 : Row ((w.alloc (.cells #[.int .u64 m.seq, .int .u32 m.ep, .int .u32 m.tail, .int .u64 m.lsn, .int .u32 m.last, .int .i64 m.pg, .int .i64 m.un, .int .i64 m.lg, .int .u32 m.mx] 27)).alloc (.cells (bs (zs 256)) 29)) w.heap.size #[.int .u64 m.seq, .int .u32 m.ep, .int .u32 m.tail, .int .u64 m.lsn, .int .u32 m.last, .int .i64 m.pg, .int .i64 m.un, .int .i64 m.lg, .int .u32 m.mx] 27 := (Row.new _ _ _).alloc _
  have r1 : Row ((w.alloc (.cells #[.int .u64 m.seq, .int .u32 m.ep, .int .u32 m.tail, .int .u64 m.lsn, .int .u32 m.last, .int .i64 m.pg, .int .i64 m.un, .int .i64 m.lg, .int .u32 m.mx] 27)).alloc (.cells (bs (zs 256)) 29)) (w.heap.size + 1) (bs (zs 256)) 29 := by have := Row.new (w.alloc (.cells #[.int .u64 m.seq, .int .u32 m.ep, .int .u32 m.tail, .int .u64 m.lsn, .int .u32 m.last, .int .i64 m.pg, .int .i64 m.un, .int .i64 m.lg, .int .u32 m.mx] 27)) (bs (zs 256)) 29; simpa using this
  have ab : Below w.heap.size w ((w.alloc (.cells #[.int .u64 m.seq, .int .u32 m.ep, .int .u32 m.tail, .int .u64 m.lsn, .int .u32 m.last, .int .i64 m.pg, .int .i64 m.un, .int .i64 m.lg, .int .u32 m.mx] 27)).alloc (.cells (bs (zs 256)) 29)) := ((Below.refl _ _).alloc (Nat.le_refl _) _).alloc (by simp) _
  go_enter Try.func9, Try.ntmps9
  go_upto_region 1 with fail
  generalize (w.alloc (.cells #[.int .u64 m.seq, .int .u32 m.ep, .int .u32 m.tail, .int .u64 m.lsn, .int .u32 m.last, .int .i64 m.pg, .int .i64 m.un, .int .i64 m.lg, .int .u32 m.mx] 27)).alloc (.cells (bs (zs 256)) 29) = w1 at r0 r1 ab ⊢
  obtain ⟨b, hb⟩ : ∃ b, mayM m = b := ⟨_, rfl⟩
  rw [hb] at PM
  cases b
  · have HV : Hid (packV m = zs 256) := by show _ = _; unfold packV; rw [hb]; rfl
    have HE : Hid (mayM m = false) := hb
    clear hb
    go_wp2_with (first
      | (refine load_cells rfl 27 (.tmp 1) rfl w.heap.size rfl 27 #[.int .u64 m.seq, .int .u32 m.ep, .int .u32 m.tail, .int .u64 m.lsn, .int .u32 m.last, .int .i64 m.pg, .int .i64 m.un, .int .i64 m.lg, .int .u32 m.mx] r0 9 Try.underlying27 rfl size27 rfl ?_)
      | (go_at_call 12; refine (PM.out _).mono ?_; clear PM; rintro ex w2 ⟨rfl, h2⟩)
      | (refine build_none rfl 29 rfl _ built29 ?_)
      | (refine store_row rfl 29 (.tmp 2) (.tmp 13) rfl (w.heap.size + 1) (zs 256) rfl rfl 29 _ (r1.below h2 r1.lt) 256 size29 (by rw [bs_size, zs_length]) (zs_length _) ?_))
    refine bodyPost_ret (v := .tuple #[.agg (bs (zs 256)), .bool false]) ?_ rfl ⟨by rw [HV.out, HE.out], below_setRow (ab.trans (h2.mono ab.size)) (by omega) _⟩
    exact ret_cell2 (fn := Try.f9) rfl _ _ (w.heap.size + 1) 29 (bs (zs 256)) _ _ rfl rfl ((r1.below h2 r1.lt).set _) Try.underlying29 rfl (by rw [bs_size, zs_length]; exact size29)
  · have HV : Hid (packV m = packB m) := by show _ = _; unfold packV; rw [hb]; rfl
    have HE : Hid (mayM m = true) := hb
    obtain ⟨m1, m2, m3, m4⟩ := mayM_of hb
    have g1 := hf.ep
    have g2 := hf.tail
    have g4 := hf.last
    have g8 := hf.mx
    have e1 : IntKind.u64.wrap m.ep = m.ep := by rw [IntKind.wrap_u64]; omega
    have e2 : IntKind.u64.wrap m.tail = m.tail := by rw [IntKind.wrap_u64]; omega
    have e4 : IntKind.u64.wrap m.last = m.last := by rw [IntKind.wrap_u64]; omega
    have e5 : IntKind.u64.wrap m.pg = m.pg := by rw [IntKind.wrap_u64]; omega
    have e6 : IntKind.u64.wrap m.un = m.un := by rw [IntKind.wrap_u64]; omega
    have e7 : IntKind.u64.wrap m.lg = m.lg := by rw [IntKind.wrap_u64]; omega
    have e8 : IntKind.u64.wrap m.mx = m.mx := by rw [IntKind.wrap_u64]; omega
    have HVF : Hid (∀ k, 0 ≤ (vsM m).getD k 0 ∧ (vsM m).getD k 0 ≤ 18446744073709551615) := vs_fit m hf hb
    clear hb hf m1 m2 m3 m4 g1 g2 g4 g8
    go_upto_region 3 with (first
      | (refine load_cells rfl 27 (.tmp 1) rfl w.heap.size rfl 27 #[.int .u64 m.seq, .int .u32 m.ep, .int .u32 m.tail, .int .u64 m.lsn, .int .u32 m.last, .int .i64 m.pg, .int .i64 m.un, .int .i64 m.lg, .int .u32 m.mx] r0 9 Try.underlying27 rfl size27 rfl ?_)
      | (go_at_call 12; refine (PM.out _).mono ?_; clear PM; rintro ex w2 ⟨rfl, h2⟩))
    have r0 := r0.below h2 r0.lt
    have r1 := r1.below h2 r1.lt
    have ab := ab.trans (h2.mono ab.size)
    clear h2
    have c0 := row_at r0 0 (.int .u64 m.seq) rfl
    have c1 := row_at r0 1 (.int .u32 m.ep) rfl
    have c2 := row_at r0 2 (.int .u32 m.tail) rfl
    have c3 := row_at r0 3 (.int .u64 m.lsn) rfl
    have c4 := row_at r0 4 (.int .u32 m.last) rfl
    have c5 := row_at r0 5 (.int .i64 m.pg) rfl
    have c6 := row_at r0 6 (.int .i64 m.un) rfl
    have c7 := row_at r0 7 (.int .i64 m.lg) rfl
    have c8 := row_at r0 8 (.int .u32 m.mx) rfl
    have l1 := r1.lt
    have qn : Row ((w2.alloc (.cells #[.int .u64 m.seq, .int .u64 m.ep, .int .u64 m.tail, .int .u64 m.lsn, .int .u64 m.last, .int .u64 m.pg, .int .u64 m.un, .int .u64 m.lg, .int .u64 m.mx] 22)).alloc (.cells #[.int .i64 8, .int .i64 4, .int .i64 4, .int .i64 8, .int .i64 4, .int .i64 2, .int .i64 2, .int .i64 2, .int .i64 4] 3)) w2.heap.size #[.int .u64 m.seq, .int .u64 m.ep, .int .u64 m.tail, .int .u64 m.lsn, .int .u64 m.last, .int .u64 m.pg, .int .u64 m.un, .int .u64 m.lg, .int .u64 m.mx] 22 := (Row.new _ _ _).alloc _
    have qz : Row ((w2.alloc (.cells #[.int .u64 m.seq, .int .u64 m.ep, .int .u64 m.tail, .int .u64 m.lsn, .int .u64 m.last, .int .u64 m.pg, .int .u64 m.un, .int .u64 m.lg, .int .u64 m.mx] 22)).alloc (.cells #[.int .i64 8, .int .i64 4, .int .i64 4, .int .i64 8, .int .i64 4, .int .i64 2, .int .i64 2, .int .i64 2, .int .i64 4] 3)) (w2.heap.size + 1) #[.int .i64 8, .int .i64 4, .int .i64 4, .int .i64 8, .int .i64 4, .int .i64 2, .int .i64 2, .int .i64 2, .int .i64 4] 3 := by have := Row.new (w2.alloc (.cells #[.int .u64 m.seq, .int .u64 m.ep, .int .u64 m.tail, .int .u64 m.lsn, .int .u64 m.last, .int .u64 m.pg, .int .u64 m.un, .int .u64 m.lg, .int .u64 m.mx] 22)) #[.int .i64 8, .int .i64 4, .int .i64 4, .int .i64 8, .int .i64 4, .int .i64 2, .int .i64 2, .int .i64 2, .int .i64 4] 3; simpa using this
    have x0 := (r0.alloc (.cells #[.int .u64 m.seq, .int .u64 m.ep, .int .u64 m.tail, .int .u64 m.lsn, .int .u64 m.last, .int .u64 m.pg, .int .u64 m.un, .int .u64 m.lg, .int .u64 m.mx] 22)).alloc (.cells #[.int .i64 8, .int .i64 4, .int .i64 4, .int .i64 8, .int .i64 4, .int .i64 2, .int .i64 2, .int .i64 2, .int .i64 4] 3)
    have x1 := (r1.alloc (.cells #[.int .u64 m.seq, .int .u64 m.ep, .int .u64 m.tail, .int .u64 m.lsn, .int .u64 m.last, .int .u64 m.pg, .int .u64 m.un, .int .u64 m.lg, .int .u64 m.mx] 22)).alloc (.cells #[.int .i64 8, .int .i64 4, .int .i64 4, .int .i64 8, .int .i64 4, .int .i64 2, .int .i64 2, .int .i64 2, .int .i64 4] 3)
    have xb := (ab.alloc ab.size (.cells #[.int .u64 m.seq, .int .u64 m.ep, .int .u64 m.tail, .int .u64 m.lsn, .int .u64 m.last, .int .u64 m.pg, .int .u64 m.un, .int .u64 m.lg, .int .u64 m.mx] 22)).alloc (by have := ab.size; simp; omega) (.cells #[.int .i64 8, .int .i64 4, .int .i64 4, .int .i64 8, .int .i64 4, .int .i64 2, .int .i64 2, .int .i64 2, .int .i64 4] 3)
    go_upto_region 7 with fail
    clear c0 c1 c2 c3 c4 c5 c6 c7 c8 e1 e2 e4 e5 e6 e7 e8 r0 r1
    have lb := ab.size
    clear ab
    generalize ((w2.alloc (.cells #[.int .u64 m.seq, .int .u64 m.ep, .int .u64 m.tail, .int .u64 m.lsn, .int .u64 m.last, .int .u64 m.pg, .int .u64 m.un, .int .u64 m.lg, .int .u64 m.mx] 22)).alloc (.cells #[.int .i64 8, .int .i64 4, .int .i64 4, .int .i64 8, .int .i64 4, .int .i64 2, .int .i64 2, .int .i64 2, .int .i64 4] 3)) = w3 at qn qz x0 x1 xb ⊢
    obtain ⟨gn, hgn⟩ : ∃ g, w2.heap.size = g := ⟨_, rfl⟩
    rw [hgn] at qn qz l1 lb ⊢
    clear hgn
    obtain ⟨gz, hgz⟩ : ∃ g, gn + 1 = g := ⟨_, rfl⟩
    rw [hgz] at qz ⊢
    have hgg : gn ≠ gz := by omega
    go_loopw [4, 7] (fun s i wr => ∃ k : Nat, k ≤ 9 ∧ s = .string (strOfNums (hdN m k)) ∧ i = .int .i64 k ∧ Row wr w.heap.size #[.int .u64 m.seq, .int .u32 m.ep, .int .u32 m.tail, .int .u64 m.lsn, .int .u32 m.last, .int .i64 m.pg, .int .i64 m.un, .int .i64 m.lg, .int .u32 m.mx] 27 ∧ Row wr (w.heap.size + 1) (bs (zs 256)) 29 ∧ Row wr gn #[.int .u64 m.seq, .int .u64 m.ep, .int .u64 m.tail, .int .u64 m.lsn, .int .u64 m.last, .int .u64 m.pg, .int .u64 m.un, .int .u64 m.lg, .int .u64 m.mx] 22 ∧ Row wr gz #[.int .i64 8, .int .i64 4, .int .i64 4, .int .i64 8, .int .i64 4, .int .i64 2, .int .i64 2, .int .i64 2, .int .i64 4] 3 ∧ Below w.heap.size w wr) (fun _ i _ => 9 - (intOf i).toNat)
    case atStart => exact ⟨0, by omega, by rfl, rfl, x0, x1, qn, qz, xb⟩
    case round =>
      clear x0 x1 qn qz xb
      obtain ⟨k, hk, rfl, rfl, r0, r1, qn, qz, ab⟩ := hrel
      by_cases hlt : k < 9
      · have hvf := HVF.out k
        have hcv := vs_at m k hlt
        have hcn := ns_at k hlt
        have hn8 := ns_le k
        obtain ⟨H2, HH2⟩ : ∃ H, Hid (hdN m (k + 1) = H) := ⟨_, rfl⟩
        have hl1 := hdN_length m k
        obtain ⟨H, HH⟩ : ∃ H, Hid (hdN m k = H) := ⟨_, rfl⟩
        obtain ⟨v, hv⟩ : ∃ v, (vsM m).getD k 0 = v := ⟨_, rfl⟩
        obtain ⟨n, hn⟩ : ∃ n, nsM.getD k 0 = n := ⟨_, rfl⟩
        obtain ⟨A, HA⟩ : ∃ A, Hid (low v n = A) := ⟨_, rfl⟩
        have e12 : hdN m (k + 1) = hdN m k ++ low ((vsM m).getD k 0) (nsM.getD k 0) := rfl
        rw [HH2.out, HH.out, hv, hn, HA.out] at e12
        rw [hv] at hvf hcv
        rw [hn] at hcn hn8
        rw [HH.out] at hl1 ⊢
        have HPT : Hid _ := rput_at v n A HA.out hvf.1 hvf.2 hn8
        have z1 : (strOfNums A).size = n := by rw [strOfNums_size, ← HA.out, low_length]
        have z2 : (strOfNums H).size ≤ 78 := by rw [strOfNums_size]; omega
        have t1 : strOfNums H ++ strOfNums A = strOfNums H2 := by rw [tx_app, e12]
        have hk9 : (k : Int) < 9 := by omega
        clear hvf hv hn e12 hl1 HVF
        go_upto_region 9 with fail
        refine wp_region_held_drew (S := fun w' => Row w' w.heap.size #[.int .u64 m.seq, .int .u32 m.ep, .int .u32 m.tail, .int .u64 m.lsn, .int .u32 m.last, .int .i64 m.pg, .int .i64 m.un, .int .i64 m.lg, .int .u32 m.mx] 27 ∧ Row w' (w.heap.size + 1) (bs (zs 256)) 29 ∧ Row w' gn #[.int .u64 m.seq, .int .u64 m.ep, .int .u64 m.tail, .int .u64 m.lsn, .int .u64 m.last, .int .u64 m.pg, .int .u64 m.un, .int .u64 m.lg, .int .u64 m.mx] 22 ∧ Row w' gz #[.int .i64 8, .int .i64 4, .int .i64 4, .int .i64 8, .int .i64 4, .int .i64 2, .int .i64 2, .int .i64 2, .int .i64 4] 3 ∧ Below w.heap.size w w') (by kernel_rfl) ⟨r0, r1, qn, qz, ab.drew⟩ fun hS => ?_
        clear r0 r1 qn qz ab
        refine wpAnyH_take (i := 0) (v := .string (strOfNums H)) rfl (by kernel_rfl) (by kernel_rfl) (by kernel_rfl) (fun _ _ _ h => h) (Or.inl ⟨by rfl, fun w _ => by go_simp⟩) hS ?_
        try simp only [Act.put, List.getElem_toArray, List.getElem_cons_zero, List.getElem_cons_succ, List.setIfInBounds_toArray, List.set_cons_zero, List.set_cons_succ]
        refine wpAnyH_take (i := 1) (v := .slice (some ⟨gn, 0, none⟩) 9 9) rfl (by kernel_rfl) (by kernel_rfl) (by kernel_rfl) (fun _ _ _ h => h) (Or.inl ⟨by rfl, fun w _ => by go_simp⟩) hS ?_
        try simp only [Act.put, List.getElem_toArray, List.getElem_cons_zero, List.getElem_cons_succ, List.setIfInBounds_toArray, List.set_cons_zero, List.set_cons_succ]
        refine wpAnyH_take (i := 2) (v := .int .i64 k) rfl (by kernel_rfl) (by kernel_rfl) (by kernel_rfl) (fun _ _ _ h => h) (Or.inl ⟨by rfl, fun w _ => by go_simp⟩) hS ?_
        try simp only [Act.put, List.getElem_toArray, List.getElem_cons_zero, List.getElem_cons_succ, List.setIfInBounds_toArray, List.set_cons_zero, List.set_cons_succ]
        refine wpAnyH_take (i := 3) (v := .pointer (some ⟨gn, k, none⟩)) rfl (by kernel_rfl) (by kernel_rfl) (by kernel_rfl) (fun _ _ _ h => h) (Or.inl ⟨by rfl, fun w _ => by go_simp⟩) hS ?_
        try simp only [Act.put, List.getElem_toArray, List.getElem_cons_zero, List.getElem_cons_succ, List.setIfInBounds_toArray, List.set_cons_zero, List.set_cons_succ]
        refine wpAnyH_take (i := 4) (v := .int .u64 v) rfl (by kernel_rfl) (by kernel_rfl) (by kernel_rfl) (fun _ _ _ h => h) (Or.inl ⟨by rfl, fun w h => by have c := row_at h.2.2.1 k _ hcv; go_simp⟩) hS ?_
        try simp only [Act.put, List.getElem_toArray, List.getElem_cons_zero, List.getElem_cons_succ, List.setIfInBounds_toArray, List.set_cons_zero, List.set_cons_succ]
        refine wpAnyH_take (i := 5) (v := .slice (some ⟨gz, 0, none⟩) 9 9) rfl (by kernel_rfl) (by kernel_rfl) (by kernel_rfl) (fun _ _ _ h => h) (Or.inl ⟨by rfl, fun w _ => by go_simp⟩) hS ?_
        try simp only [Act.put, List.getElem_toArray, List.getElem_cons_zero, List.getElem_cons_succ, List.setIfInBounds_toArray, List.set_cons_zero, List.set_cons_succ]
        refine wpAnyH_take (i := 6) (v := .int .i64 k) rfl (by kernel_rfl) (by kernel_rfl) (by kernel_rfl) (fun _ _ _ h => h) (Or.inl ⟨by rfl, fun w _ => by go_simp⟩) hS ?_
        try simp only [Act.put, List.getElem_toArray, List.getElem_cons_zero, List.getElem_cons_succ, List.setIfInBounds_toArray, List.set_cons_zero, List.set_cons_succ]
        refine wpAnyH_take (i := 7) (v := .pointer (some ⟨gz, k, none⟩)) rfl (by kernel_rfl) (by kernel_rfl) (by kernel_rfl) (fun _ _ _ h => h) (Or.inl ⟨by rfl, fun w _ => by go_simp⟩) hS ?_
        try simp only [Act.put, List.getElem_toArray, List.getElem_cons_zero, List.getElem_cons_succ, List.setIfInBounds_toArray, List.set_cons_zero, List.set_cons_succ]
        refine wpAnyH_take (i := 8) (v := .int .i64 n) rfl (by kernel_rfl) (by kernel_rfl) (by kernel_rfl) (fun _ _ _ h => h) (Or.inl ⟨by rfl, fun w h => by have c := row_at h.2.2.2.1 k _ hcn; go_simp⟩) hS ?_
        try simp only [Act.put, List.getElem_toArray, List.getElem_cons_zero, List.getElem_cons_succ, List.setIfInBounds_toArray, List.set_cons_zero, List.set_cons_succ]
        refine wpAnyH_ready (rs := [9]) (by kernel_rfl) (by simp) ?_
        refine AllReadyH.cons rfl (fun K hK => ?_) AllReadyH.nil
        go_simp
        go_at_call 25
        refine Calls.mono (HPT.out _) ?_
        rintro e wc ⟨rfl, hcb⟩
        refine hK.out _ _ (⟨hS.1.below hcb hS.1.lt, hS.2.1.below hcb hS.2.1.lt, hS.2.2.1.below hcb hS.2.2.1.lt, hS.2.2.2.1.below hcb hS.2.2.2.1.lt, hS.2.2.2.2.trans (hcb.mono hS.2.2.2.2.size)⟩) fun hS => ?_
        try simp only [Act.put, List.getElem_toArray, List.getElem_cons_zero, List.getElem_cons_succ, List.setIfInBounds_toArray, List.set_cons_zero, List.set_cons_succ]
        clear hcb
        refine wpAnyH_take (i := 10) (v := .string (strOfNums H2)) rfl (by kernel_rfl) (by kernel_rfl) (by kernel_rfl) (fun _ _ _ h => h) (Or.inl ⟨by rfl, fun w _ => by go_simp; omega⟩) hS ?_
        try simp only [Act.put, List.getElem_toArray, List.getElem_cons_zero, List.getElem_cons_succ, List.setIfInBounds_toArray, List.set_cons_zero, List.set_cons_succ]
        refine wpAnyH_take (i := 11) (v := .string (strOfNums H2)) rfl (by kernel_rfl) (by kernel_rfl) (by kernel_rfl) (fun _ _ _ h => h) (Or.inl ⟨by rfl, fun w _ => by go_simp⟩) hS ?_
        try simp only [Act.put, List.getElem_toArray, List.getElem_cons_zero, List.getElem_cons_succ, List.setIfInBounds_toArray, List.set_cons_zero, List.set_cons_succ]
        refine wpAnyH_done (by kernel_rfl) ?_ _
        obtain ⟨r0, r1, qn, qz, ab⟩ := hS
        clear t1 z1 z2
        go_wp2
        go_roundw
        case rel => exact ⟨k + 1, by omega, by rw [HH2.out], by go_num, r0, r1, qn, qz, ab⟩
        case measure => simp [intOf]; omega
      · obtain rfl : k = 9 := by omega
        rw [hdN_nine]
        have hHl : (headT m).length = 44 := headT_length m
        have HTX : Hid (textT m = headT m ++ low (u (more 0#32 (strOfNums (headT m)))) 4) := rfl
        have HTL : Hid ((textT m).length = 48) := textT_length m
        have HTB : Hid (Bytes (textT m)) := textT_bytes m
        have HPB : Hid (packB m = Sl.sealN m.seq (padT (textT m)) 4) := rfl
        obtain ⟨T, HT⟩ : ∃ T, Hid (textT m = T) := ⟨_, rfl⟩
        obtain ⟨H, HH⟩ : ∃ H, Hid (headT m = H) := ⟨_, rfl⟩
        rw [HT.out] at HTX HTL HTB HPB
        rw [HH.out] at HTX hHl ⊢
        have y9 : (strOfNums H).size = 44 := by rw [strOfNums_size, hHl]
        have HS : Hid _ := fun w => rsum_any (strOfNums H) w (by rw [y9]; decide)
        obtain ⟨q, hq⟩ : ∃ q, Hid (u (more 0#32 (strOfNums H)) = q) := ⟨_, rfl⟩
        have hq' : 0 ≤ q ∧ q ≤ 4294967295 := by rw [← hq.out]; exact u_fits _
        rw [hq.out] at HS HTX
        obtain ⟨A, HA⟩ : ∃ A, Hid (low q 4 = A) := ⟨_, rfl⟩
        have HPT : Hid _ := rput_at q 4 A HA.out (by omega) (by omega) (by decide)
        rw [HA.out] at HTX
        have z10 : (strOfNums A).size = 4 := by rw [strOfNums_size, ← HA.out, low_length]
        have t10 : strOfNums H ++ strOfNums A = strOfNums T := by rw [tx_app, HTX.out]
        have e10 : IntKind.u64.wrap q = q := by rw [IntKind.wrap_u64]; omega
        have HSZ : Hid ((strOfNums T).size = 48) := by show _ = _; rw [strOfNums_size, HTL.out]
        have HAT : Hid (∀ i (h : i < (strOfNums T).size), (((strOfNums T)[i]'h).toNat : Int) = T.getD i 0) := fun i h => by rw [← byteAt_in, byteAt_tx HTB.out]
        clear HVF
        go_upto_region 11 with (first
          | (go_at_call 26; refine (HS.out _).mono ?_; clear HS; rintro ex w' ⟨rfl, rfl⟩)
          | (go_at_call 25; refine (HPT.out _).mono ?_; clear HPT; rintro ex w5 ⟨rfl, b5⟩))
        clear t10 y9 z10 e10
        have r0 := r0.below b5 r0.lt
        have r1 := r1.below b5 r1.lt
        have ab := ab.trans (b5.mono ab.size)
        clear b5 qn qz
        have l1 := r1.lt
        have q0 : Row (w5.alloc (.cells (bs (zs 224)) 56)) w5.heap.size (bs (upto 224 (fun i => T.getD i 0) 0)) 56 := by rw [← upto_zero]; exact Row.new _ _ _
        have r0 := r0.alloc (.cells (bs (zs 224)) 56)
        have r1 := r1.alloc (.cells (bs (zs 224)) 56)
        have hB := ab.size
        have ab := ab.alloc ab.size (.cells (bs (zs 224)) 56)
        have hSZ := HSZ.out
        go_wp2
        go_loopw [9] (fun i wr => ∃ k : Nat, k ≤ 48 ∧ i = .int .i64 k ∧ Row wr w.heap.size #[.int .u64 m.seq, .int .u32 m.ep, .int .u32 m.tail, .int .u64 m.lsn, .int .u32 m.last, .int .i64 m.pg, .int .i64 m.un, .int .i64 m.lg, .int .u32 m.mx] 27 ∧ Row wr (w.heap.size + 1) (bs (zs 256)) 29 ∧ Row wr w5.heap.size (bs (upto 224 (fun i => T.getD i 0) k)) 56 ∧ Below w.heap.size w wr) (fun i _ => 48 - (intOf i).toNat)
        case atStart => exact ⟨0, by omega, rfl, r0, r1, q0, ab⟩
        case round =>
          clear r0 r1 q0 ab
          obtain ⟨k, hk, rfl, r0, r1, q0, ab⟩ := hrel
          by_cases hkl : k < 48
          · have hx := HAT.out k (by rw [HSZ.out]; exact hkl)
            have hxb := HTB.out.at k
            have hcell := row_cell q0 k (by rw [upto_length]; omega)
            have hfz := row_frozen q0 k
            have q0' := row_setCell q0 k (T.getD k 0)
            rw [upto_step] at q0'
            have r0' := row_setCell_other r0 (show w.heap.size ≠ w5.heap.size by omega) k (.int .u8 (T.getD k 0))
            have r1' := row_setCell_other r1 (show w.heap.size + 1 ≠ w5.heap.size by omega) k (.int .u8 (T.getD k 0))
            have ab' := ab.setCell (p := ⟨w5.heap.size, k, none⟩) hB (.int .u8 (T.getD k 0))
            generalize T.getD k 0 = x at hx hxb q0' r0' r1' ab' ⊢
            generalize hv : (upto 224 (fun i => T.getD i 0) k).getD k 0 = y at hcell ⊢
            clear hv q0 HAT
            have hkl' : (k : Int) < 48 := by omega
            have hk2 : (k : Int) < 224 := by omega
            go_wp2
            go_roundw
            case rel => exact ⟨k + 1, by omega, by go_num, r0', r1', q0', ab'⟩
            case measure => simp [intOf]; omega
          · obtain rfl : k = 48 := by omega
            have e : upto 224 (fun i => T.getD i 0) 48 = padT T := by
              have := upto_pad T (by rw [HTL.out]; decide)
              rw [HTL.out] at this; exact this
            rw [e] at q0
            clear e HAT
            have hQl := padT_length T (by rw [HTL.out]; decide)
            obtain ⟨Q, HQ⟩ : ∃ Q, Hid (padT T = Q) := ⟨_, rfl⟩
            have hQy := padT_bytes T HTB.out
            rw [HQ.out] at q0 hQl hQy HPB
            have hQb : (bs Q).size = 224 := by rw [bs_size, hQl]
            have HSL : Hid _ := fun w => Sl.rseal_any m.seq Q hQl hQy w f1.1 f1.2
            have hBl := Sl.sealN_length m.seq Q 4 (by omega)
            generalize Sl.sealN m.seq Q 4 = B at HSL HPB hBl
            have c0 := row_at r0 0 (.int .u64 m.seq) rfl
            have hBb : (bs B).size = 256 := by rw [bs_size, hBl]
            have HBL : Hid (B.length = 256) := hBl
            clear hQl hBl hQy
            go_wp2_with (first
              | (refine load_row rfl 56 (.tmp 8) rfl w5.heap.size rfl 56 (bs Q) q0 224 5 Try.underlying56 size56 hQb ?_)
              | (go_at_call 27; refine (HSL.out _).mono ?_; clear HSL; rintro ex w6 ⟨rfl, h6⟩)
              | (refine store_row rfl 29 (.tmp 2) (.tmp 82) rfl (w.heap.size + 1) B rfl rfl 29 _ (r1.below h6 r1.lt) 256 size29 (by rw [bs_size, zs_length]) HBL.out ?_))
            refine bodyPost_ret (v := .tuple #[.agg (bs B), .bool true]) ?_ rfl ⟨by rw [HV.out, HE.out, HPB.out], below_setRow (ab.trans (h6.mono ab.size)) (by omega) _⟩
            exact ret_cell2 (fn := Try.f9) rfl _ _ (w.heap.size + 1) 29 (bs B) _ _ rfl rfl ((r1.below h6 r1.lt).set _) Try.underlying29 rfl (by rw [hBb]; exact size29)
end Go.Proofs.Ytcbjjofckhohjaa
