/-
  Proved here: master.text: what the payload of a master begins with.
-/
import Derived.Test.YtcbjjofckhohjaaMas
namespace Go.Proofs.Ytcbjjofckhohjaa
open Go.ChangeShapes Go.WideShapes Go.ChangeAt Go.RowKit
set_option linter.unusedVariables false
set_option linter.unusedSimpArgs false
set_option maxRecDepth 20000

/-- A master's text ahead of its sum. -/
def headT (m : M) : List Int := [118, 97, 114, 118, 101, 49] ++ low m.seq 8 ++ low m.ep 4 ++ low m.tail 4 ++ low m.lsn 8 ++ low m.last 4 ++ low m.pg 2 ++ low m.un 2 ++ low m.lg 2 ++ low m.mx 4
/-- A master's text. -/
def textT (m : M) : List Int := headT m ++ low (u (more 0#32 (strOfNums (headT m)))) 4
theorem headT_length (m : M) : (headT m).length = 44 := by simp [headT, low_length]
theorem textT_length (m : M) : (textT m).length = 48 := by simp [textT, headT_length, low_length]
theorem headT_bytes (m : M) : Bytes (headT m) := by
  unfold headT
  refine Bytes.append ?_ (low_bytes _ _)
  refine Bytes.append ?_ (low_bytes _ _)
  refine Bytes.append ?_ (low_bytes _ _)
  refine Bytes.append ?_ (low_bytes _ _)
  refine Bytes.append ?_ (low_bytes _ _)
  refine Bytes.append ?_ (low_bytes _ _)
  refine Bytes.append ?_ (low_bytes _ _)
  refine Bytes.append ?_ (low_bytes _ _)
  refine Bytes.append ?_ (low_bytes _ _)
  intro y hy
  simp at hy
  omega
theorem textT_bytes (m : M) : Bytes (textT m) := (headT_bytes m).append (low_bytes _ _)

set_option maxHeartbeats 4000000 in
theorem mtext_any (m : M) (w : World) (hf : m.Fit) (hm : mayM m = true) : Calls Try.prog 23 #[.agg (mcells m)] w fun e w' => e = .returned (.string (strOfNums (textT m))) ∧ Below w.heap.size w w' := by
  obtain ⟨m1, m2, m3, m4⟩ := mayM_of hm
  clear hm
  have f1 := hf.seq
  have f2 := hf.ep
  have f3 := hf.tail
  have f4 := hf.lsn
  have f5 := hf.last
  have f6 := hf.mx
  obtain ⟨A1, HA1⟩ : ∃ A, Hid (low m.seq 8 = A) := ⟨_, rfl⟩
  have P1 : Hid _ := put_at m.seq 8 A1 HA1.out (by omega) (by omega) (by decide)
  have z1 : (strOfNums A1).size = 8 := by rw [strOfNums_size, ← HA1.out, low_length]
  obtain ⟨A2, HA2⟩ : ∃ A, Hid (low m.ep 4 = A) := ⟨_, rfl⟩
  have P2 : Hid _ := put_at m.ep 4 A2 HA2.out (by omega) (by omega) (by decide)
  have z2 : (strOfNums A2).size = 4 := by rw [strOfNums_size, ← HA2.out, low_length]
  obtain ⟨A3, HA3⟩ : ∃ A, Hid (low m.tail 4 = A) := ⟨_, rfl⟩
  have P3 : Hid _ := put_at m.tail 4 A3 HA3.out (by omega) (by omega) (by decide)
  have z3 : (strOfNums A3).size = 4 := by rw [strOfNums_size, ← HA3.out, low_length]
  obtain ⟨A4, HA4⟩ : ∃ A, Hid (low m.lsn 8 = A) := ⟨_, rfl⟩
  have P4 : Hid _ := put_at m.lsn 8 A4 HA4.out (by omega) (by omega) (by decide)
  have z4 : (strOfNums A4).size = 8 := by rw [strOfNums_size, ← HA4.out, low_length]
  obtain ⟨A5, HA5⟩ : ∃ A, Hid (low m.last 4 = A) := ⟨_, rfl⟩
  have P5 : Hid _ := put_at m.last 4 A5 HA5.out (by omega) (by omega) (by decide)
  have z5 : (strOfNums A5).size = 4 := by rw [strOfNums_size, ← HA5.out, low_length]
  obtain ⟨A6, HA6⟩ : ∃ A, Hid (low m.pg 2 = A) := ⟨_, rfl⟩
  have P6 : Hid _ := put_at m.pg 2 A6 HA6.out (by omega) (by omega) (by decide)
  have z6 : (strOfNums A6).size = 2 := by rw [strOfNums_size, ← HA6.out, low_length]
  obtain ⟨A7, HA7⟩ : ∃ A, Hid (low m.un 2 = A) := ⟨_, rfl⟩
  have P7 : Hid _ := put_at m.un 2 A7 HA7.out (by omega) (by omega) (by decide)
  have z7 : (strOfNums A7).size = 2 := by rw [strOfNums_size, ← HA7.out, low_length]
  obtain ⟨A8, HA8⟩ : ∃ A, Hid (low m.lg 2 = A) := ⟨_, rfl⟩
  have P8 : Hid _ := put_at m.lg 2 A8 HA8.out (by omega) (by omega) (by decide)
  have z8 : (strOfNums A8).size = 2 := by rw [strOfNums_size, ← HA8.out, low_length]
  obtain ⟨A9, HA9⟩ : ∃ A, Hid (low m.mx 4 = A) := ⟨_, rfl⟩
  have P9 : Hid _ := put_at m.mx 4 A9 HA9.out (by omega) (by omega) (by decide)
  have z9 : (strOfNums A9).size = 4 := by rw [strOfNums_size, ← HA9.out, low_length]
  obtain ⟨B1, HB1⟩ : ∃ B : List Int, Hid (([118, 97, 114, 118, 101, 49] : List Int) ++ A1 = B) := ⟨_, rfl⟩
  have t1 : (ByteArray.mk #[118, 97, 114, 118, 101, 49]) ++ strOfNums A1 = strOfNums B1 := by
    have : ByteArray.mk #[118, 97, 114, 118, 101, 49] = strOfNums [118, 97, 114, 118, 101, 49] := by decide
    rw [this, tx_app, HB1.out]
  have y1 : (strOfNums B1).size = 14 := by rw [← t1, ByteArray.size_append, z1]; rfl
  obtain ⟨B2, HB2⟩ : ∃ B : List Int, Hid (B1 ++ A2 = B) := ⟨_, rfl⟩
  have t2 : strOfNums B1 ++ strOfNums A2 = strOfNums B2 := by
    rw [tx_app, HB2.out]
  have y2 : (strOfNums B2).size = 18 := by rw [← t2, ByteArray.size_append, z2, y1]
  obtain ⟨B3, HB3⟩ : ∃ B : List Int, Hid (B2 ++ A3 = B) := ⟨_, rfl⟩
  have t3 : strOfNums B2 ++ strOfNums A3 = strOfNums B3 := by
    rw [tx_app, HB3.out]
  have y3 : (strOfNums B3).size = 22 := by rw [← t3, ByteArray.size_append, z3, y2]
  obtain ⟨B4, HB4⟩ : ∃ B : List Int, Hid (B3 ++ A4 = B) := ⟨_, rfl⟩
  have t4 : strOfNums B3 ++ strOfNums A4 = strOfNums B4 := by
    rw [tx_app, HB4.out]
  have y4 : (strOfNums B4).size = 30 := by rw [← t4, ByteArray.size_append, z4, y3]
  obtain ⟨B5, HB5⟩ : ∃ B : List Int, Hid (B4 ++ A5 = B) := ⟨_, rfl⟩
  have t5 : strOfNums B4 ++ strOfNums A5 = strOfNums B5 := by
    rw [tx_app, HB5.out]
  have y5 : (strOfNums B5).size = 34 := by rw [← t5, ByteArray.size_append, z5, y4]
  obtain ⟨B6, HB6⟩ : ∃ B : List Int, Hid (B5 ++ A6 = B) := ⟨_, rfl⟩
  have t6 : strOfNums B5 ++ strOfNums A6 = strOfNums B6 := by
    rw [tx_app, HB6.out]
  have y6 : (strOfNums B6).size = 36 := by rw [← t6, ByteArray.size_append, z6, y5]
  obtain ⟨B7, HB7⟩ : ∃ B : List Int, Hid (B6 ++ A7 = B) := ⟨_, rfl⟩
  have t7 : strOfNums B6 ++ strOfNums A7 = strOfNums B7 := by
    rw [tx_app, HB7.out]
  have y7 : (strOfNums B7).size = 38 := by rw [← t7, ByteArray.size_append, z7, y6]
  obtain ⟨B8, HB8⟩ : ∃ B : List Int, Hid (B7 ++ A8 = B) := ⟨_, rfl⟩
  have t8 : strOfNums B7 ++ strOfNums A8 = strOfNums B8 := by
    rw [tx_app, HB8.out]
  have y8 : (strOfNums B8).size = 40 := by rw [← t8, ByteArray.size_append, z8, y7]
  obtain ⟨B9, HB9⟩ : ∃ B : List Int, Hid (B8 ++ A9 = B) := ⟨_, rfl⟩
  have t9 : strOfNums B8 ++ strOfNums A9 = strOfNums B9 := by
    rw [tx_app, HB9.out]
  have y9 : (strOfNums B9).size = 44 := by rw [← t9, ByteArray.size_append, z9, y8]
  have e1 : IntKind.u64.wrap m.ep = m.ep := by rw [IntKind.wrap_u64]; omega
  have e2 : IntKind.u64.wrap m.tail = m.tail := by rw [IntKind.wrap_u64]; omega
  have e4 : IntKind.u64.wrap m.last = m.last := by rw [IntKind.wrap_u64]; omega
  have e5 : IntKind.u64.wrap m.pg = m.pg := by rw [IntKind.wrap_u64]; omega
  have e6 : IntKind.u64.wrap m.un = m.un := by rw [IntKind.wrap_u64]; omega
  have e7 : IntKind.u64.wrap m.lg = m.lg := by rw [IntKind.wrap_u64]; omega
  have e8 : IntKind.u64.wrap m.mx = m.mx := by rw [IntKind.wrap_u64]; omega
  have hz := zero25
  have y0 : Row (w.alloc (.cells #[.int .u64 m.seq, .int .u32 m.ep, .int .u32 m.tail, .int .u64 m.lsn, .int .u32 m.last, .int .i64 m.pg, .int .i64 m.un, .int .i64 m.lg, .int .u32 m.mx] 27)) w.heap.size #[.int .u64 m.seq, .int .u32 m.ep, .int .u32 m.tail, .int .u64 m.lsn, .int .u32 m.last, .int .i64 m.pg, .int .i64 m.un, .int .i64 m.lg, .int .u32 m.mx] 27 := Row.new _ _ _
  have yb : Below w.heap.size w (w.alloc (.cells #[.int .u64 m.seq, .int .u32 m.ep, .int .u32 m.tail, .int .u64 m.lsn, .int .u32 m.last, .int .i64 m.pg, .int .i64 m.un, .int .i64 m.lg, .int .u32 m.mx] 27)) := (Below.refl _ _).alloc (Nat.le_refl _) _
  have hs : Hid ((w.alloc (.cells #[.int .u64 m.seq, .int .u32 m.ep, .int .u32 m.tail, .int .u64 m.lsn, .int .u32 m.last, .int .i64 m.pg, .int .i64 m.un, .int .i64 m.lg, .int .u32 m.mx] 27)).heap.size = w.heap.size + 1) := by simp [Hid]
  go_enter Try.func23, Try.ntmps23
  go_upto_region 1 with fail
  generalize w.alloc (.cells #[.int .u64 m.seq, .int .u32 m.ep, .int .u32 m.tail, .int .u64 m.lsn, .int .u32 m.last, .int .i64 m.pg, .int .i64 m.un, .int .i64 m.lg, .int .u32 m.mx] 27) = w1 at y0 yb hs ⊢
  have c5 := row_at y0 5 (.int .i64 m.pg) rfl
  have c6 := row_at y0 6 (.int .i64 m.un) rfl
  have c7 := row_at y0 7 (.int .i64 m.lg) rfl
  have c8 := row_at y0 8 (.int .u32 m.mx) rfl
  go_upto_region 2 with fail
  have x0 := y0.alloc (.cells #[.int .i64 m.pg, .int .i64 m.un, .int .i64 m.lg, .int .u32 m.mx] 25)
  have x1 : Row (w1.alloc (.cells #[.int .i64 m.pg, .int .i64 m.un, .int .i64 m.lg, .int .u32 m.mx] 25)) (w.heap.size + 1) #[.int .i64 m.pg, .int .i64 m.un, .int .i64 m.lg, .int .u32 m.mx] 25 := by rw [← hs.out]; exact Row.new _ _ _
  have yb := yb.alloc yb.size (.cells #[.int .i64 m.pg, .int .i64 m.un, .int .i64 m.lg, .int .u32 m.mx] 25)
  rw [hs.out]
  clear c5 c6 c7 c8 y0 hs hz
  generalize w1.alloc (.cells #[.int .i64 m.pg, .int .i64 m.un, .int .i64 m.lg, .int .u32 m.mx] 25) = w2 at x0 x1 yb ⊢
  refine wp_region_held_drew (S := fun w' => Row w' w.heap.size #[.int .u64 m.seq, .int .u32 m.ep, .int .u32 m.tail, .int .u64 m.lsn, .int .u32 m.last, .int .i64 m.pg, .int .i64 m.un, .int .i64 m.lg, .int .u32 m.mx] 27 ∧ Row w' (w.heap.size + 1) #[.int .i64 m.pg, .int .i64 m.un, .int .i64 m.lg, .int .u32 m.mx] 25 ∧ Below w.heap.size w w') (by kernel_rfl) ⟨x0, x1, yb.drew⟩ fun hS => ?_
  clear x0 x1 yb
  refine wpAnyH_take (i := 0) (v := .pointer (some ⟨w.heap.size, 0, none⟩)) rfl (by kernel_rfl) (by kernel_rfl) (by kernel_rfl) (fun _ _ _ h => h) (Or.inl ⟨by rfl, fun w _ => by go_simp⟩) hS ?_
  try simp only [Act.put, List.getElem_toArray, List.getElem_cons_zero, List.getElem_cons_succ, List.setIfInBounds_toArray, List.set_cons_zero, List.set_cons_succ]
  refine wpAnyH_take (i := 1) (v := .int .u64 m.seq) rfl (by kernel_rfl) (by kernel_rfl) (by kernel_rfl) (fun _ _ _ h => h) (Or.inl ⟨by rfl, fun w h => by have c := row_at h.1 0 _ rfl; go_simp⟩) hS ?_
  try simp only [Act.put, List.getElem_toArray, List.getElem_cons_zero, List.getElem_cons_succ, List.setIfInBounds_toArray, List.set_cons_zero, List.set_cons_succ]
  refine wpAnyH_take (i := 4) (v := .pointer (some ⟨w.heap.size, 1, none⟩)) rfl (by kernel_rfl) (by kernel_rfl) (by kernel_rfl) (fun _ _ _ h => h) (Or.inl ⟨by rfl, fun w _ => by go_simp⟩) hS ?_
  try simp only [Act.put, List.getElem_toArray, List.getElem_cons_zero, List.getElem_cons_succ, List.setIfInBounds_toArray, List.set_cons_zero, List.set_cons_succ]
  refine wpAnyH_take (i := 5) (v := .int .u32 m.ep) rfl (by kernel_rfl) (by kernel_rfl) (by kernel_rfl) (fun _ _ _ h => h) (Or.inl ⟨by rfl, fun w h => by have c := row_at h.1 1 _ rfl; go_simp⟩) hS ?_
  try simp only [Act.put, List.getElem_toArray, List.getElem_cons_zero, List.getElem_cons_succ, List.setIfInBounds_toArray, List.set_cons_zero, List.set_cons_succ]
  refine wpAnyH_take (i := 6) (v := .int .u64 m.ep) rfl (by kernel_rfl) (by kernel_rfl) (by kernel_rfl) (fun _ _ _ h => h) (Or.inl ⟨by rfl, fun w _ => by go_simp⟩) hS ?_
  try simp only [Act.put, List.getElem_toArray, List.getElem_cons_zero, List.getElem_cons_succ, List.setIfInBounds_toArray, List.set_cons_zero, List.set_cons_succ]
  refine wpAnyH_take (i := 9) (v := .pointer (some ⟨w.heap.size, 2, none⟩)) rfl (by kernel_rfl) (by kernel_rfl) (by kernel_rfl) (fun _ _ _ h => h) (Or.inl ⟨by rfl, fun w _ => by go_simp⟩) hS ?_
  try simp only [Act.put, List.getElem_toArray, List.getElem_cons_zero, List.getElem_cons_succ, List.setIfInBounds_toArray, List.set_cons_zero, List.set_cons_succ]
  refine wpAnyH_take (i := 10) (v := .int .u32 m.tail) rfl (by kernel_rfl) (by kernel_rfl) (by kernel_rfl) (fun _ _ _ h => h) (Or.inl ⟨by rfl, fun w h => by have c := row_at h.1 2 _ rfl; go_simp⟩) hS ?_
  try simp only [Act.put, List.getElem_toArray, List.getElem_cons_zero, List.getElem_cons_succ, List.setIfInBounds_toArray, List.set_cons_zero, List.set_cons_succ]
  refine wpAnyH_take (i := 11) (v := .int .u64 m.tail) rfl (by kernel_rfl) (by kernel_rfl) (by kernel_rfl) (fun _ _ _ h => h) (Or.inl ⟨by rfl, fun w _ => by go_simp⟩) hS ?_
  try simp only [Act.put, List.getElem_toArray, List.getElem_cons_zero, List.getElem_cons_succ, List.setIfInBounds_toArray, List.set_cons_zero, List.set_cons_succ]
  refine wpAnyH_take (i := 14) (v := .pointer (some ⟨w.heap.size, 3, none⟩)) rfl (by kernel_rfl) (by kernel_rfl) (by kernel_rfl) (fun _ _ _ h => h) (Or.inl ⟨by rfl, fun w _ => by go_simp⟩) hS ?_
  try simp only [Act.put, List.getElem_toArray, List.getElem_cons_zero, List.getElem_cons_succ, List.setIfInBounds_toArray, List.set_cons_zero, List.set_cons_succ]
  refine wpAnyH_take (i := 15) (v := .int .u64 m.lsn) rfl (by kernel_rfl) (by kernel_rfl) (by kernel_rfl) (fun _ _ _ h => h) (Or.inl ⟨by rfl, fun w h => by have c := row_at h.1 3 _ rfl; go_simp⟩) hS ?_
  try simp only [Act.put, List.getElem_toArray, List.getElem_cons_zero, List.getElem_cons_succ, List.setIfInBounds_toArray, List.set_cons_zero, List.set_cons_succ]
  refine wpAnyH_take (i := 18) (v := .pointer (some ⟨w.heap.size, 4, none⟩)) rfl (by kernel_rfl) (by kernel_rfl) (by kernel_rfl) (fun _ _ _ h => h) (Or.inl ⟨by rfl, fun w _ => by go_simp⟩) hS ?_
  try simp only [Act.put, List.getElem_toArray, List.getElem_cons_zero, List.getElem_cons_succ, List.setIfInBounds_toArray, List.set_cons_zero, List.set_cons_succ]
  refine wpAnyH_take (i := 19) (v := .int .u32 m.last) rfl (by kernel_rfl) (by kernel_rfl) (by kernel_rfl) (fun _ _ _ h => h) (Or.inl ⟨by rfl, fun w h => by have c := row_at h.1 4 _ rfl; go_simp⟩) hS ?_
  try simp only [Act.put, List.getElem_toArray, List.getElem_cons_zero, List.getElem_cons_succ, List.setIfInBounds_toArray, List.set_cons_zero, List.set_cons_succ]
  refine wpAnyH_take (i := 20) (v := .int .u64 m.last) rfl (by kernel_rfl) (by kernel_rfl) (by kernel_rfl) (fun _ _ _ h => h) (Or.inl ⟨by rfl, fun w _ => by go_simp⟩) hS ?_
  try simp only [Act.put, List.getElem_toArray, List.getElem_cons_zero, List.getElem_cons_succ, List.setIfInBounds_toArray, List.set_cons_zero, List.set_cons_succ]
  refine wpAnyH_take (i := 23) (v := .pointer (some ⟨(w.heap.size + 1), 0, none⟩)) rfl (by kernel_rfl) (by kernel_rfl) (by kernel_rfl) (fun _ _ _ h => h) (Or.inl ⟨by rfl, fun w _ => by go_simp⟩) hS ?_
  try simp only [Act.put, List.getElem_toArray, List.getElem_cons_zero, List.getElem_cons_succ, List.setIfInBounds_toArray, List.set_cons_zero, List.set_cons_succ]
  refine wpAnyH_take (i := 24) (v := .int .i64 m.pg) rfl (by kernel_rfl) (by kernel_rfl) (by kernel_rfl) (fun _ _ _ h => h) (Or.inl ⟨by rfl, fun w h => by have c := row_at h.2.1 0 _ rfl; go_simp⟩) hS ?_
  try simp only [Act.put, List.getElem_toArray, List.getElem_cons_zero, List.getElem_cons_succ, List.setIfInBounds_toArray, List.set_cons_zero, List.set_cons_succ]
  refine wpAnyH_take (i := 25) (v := .int .u64 m.pg) rfl (by kernel_rfl) (by kernel_rfl) (by kernel_rfl) (fun _ _ _ h => h) (Or.inl ⟨by rfl, fun w _ => by go_simp⟩) hS ?_
  try simp only [Act.put, List.getElem_toArray, List.getElem_cons_zero, List.getElem_cons_succ, List.setIfInBounds_toArray, List.set_cons_zero, List.set_cons_succ]
  refine wpAnyH_take (i := 28) (v := .pointer (some ⟨(w.heap.size + 1), 1, none⟩)) rfl (by kernel_rfl) (by kernel_rfl) (by kernel_rfl) (fun _ _ _ h => h) (Or.inl ⟨by rfl, fun w _ => by go_simp⟩) hS ?_
  try simp only [Act.put, List.getElem_toArray, List.getElem_cons_zero, List.getElem_cons_succ, List.setIfInBounds_toArray, List.set_cons_zero, List.set_cons_succ]
  refine wpAnyH_take (i := 29) (v := .int .i64 m.un) rfl (by kernel_rfl) (by kernel_rfl) (by kernel_rfl) (fun _ _ _ h => h) (Or.inl ⟨by rfl, fun w h => by have c := row_at h.2.1 1 _ rfl; go_simp⟩) hS ?_
  try simp only [Act.put, List.getElem_toArray, List.getElem_cons_zero, List.getElem_cons_succ, List.setIfInBounds_toArray, List.set_cons_zero, List.set_cons_succ]
  refine wpAnyH_take (i := 30) (v := .int .u64 m.un) rfl (by kernel_rfl) (by kernel_rfl) (by kernel_rfl) (fun _ _ _ h => h) (Or.inl ⟨by rfl, fun w _ => by go_simp⟩) hS ?_
  try simp only [Act.put, List.getElem_toArray, List.getElem_cons_zero, List.getElem_cons_succ, List.setIfInBounds_toArray, List.set_cons_zero, List.set_cons_succ]
  refine wpAnyH_take (i := 33) (v := .pointer (some ⟨(w.heap.size + 1), 2, none⟩)) rfl (by kernel_rfl) (by kernel_rfl) (by kernel_rfl) (fun _ _ _ h => h) (Or.inl ⟨by rfl, fun w _ => by go_simp⟩) hS ?_
  try simp only [Act.put, List.getElem_toArray, List.getElem_cons_zero, List.getElem_cons_succ, List.setIfInBounds_toArray, List.set_cons_zero, List.set_cons_succ]
  refine wpAnyH_take (i := 34) (v := .int .i64 m.lg) rfl (by kernel_rfl) (by kernel_rfl) (by kernel_rfl) (fun _ _ _ h => h) (Or.inl ⟨by rfl, fun w h => by have c := row_at h.2.1 2 _ rfl; go_simp⟩) hS ?_
  try simp only [Act.put, List.getElem_toArray, List.getElem_cons_zero, List.getElem_cons_succ, List.setIfInBounds_toArray, List.set_cons_zero, List.set_cons_succ]
  refine wpAnyH_take (i := 35) (v := .int .u64 m.lg) rfl (by kernel_rfl) (by kernel_rfl) (by kernel_rfl) (fun _ _ _ h => h) (Or.inl ⟨by rfl, fun w _ => by go_simp⟩) hS ?_
  try simp only [Act.put, List.getElem_toArray, List.getElem_cons_zero, List.getElem_cons_succ, List.setIfInBounds_toArray, List.set_cons_zero, List.set_cons_succ]
  refine wpAnyH_take (i := 38) (v := .pointer (some ⟨(w.heap.size + 1), 3, none⟩)) rfl (by kernel_rfl) (by kernel_rfl) (by kernel_rfl) (fun _ _ _ h => h) (Or.inl ⟨by rfl, fun w _ => by go_simp⟩) hS ?_
  try simp only [Act.put, List.getElem_toArray, List.getElem_cons_zero, List.getElem_cons_succ, List.setIfInBounds_toArray, List.set_cons_zero, List.set_cons_succ]
  refine wpAnyH_take (i := 39) (v := .int .u32 m.mx) rfl (by kernel_rfl) (by kernel_rfl) (by kernel_rfl) (fun _ _ _ h => h) (Or.inl ⟨by rfl, fun w h => by have c := row_at h.2.1 3 _ rfl; go_simp⟩) hS ?_
  try simp only [Act.put, List.getElem_toArray, List.getElem_cons_zero, List.getElem_cons_succ, List.setIfInBounds_toArray, List.set_cons_zero, List.set_cons_succ]
  refine wpAnyH_take (i := 40) (v := .int .u64 m.mx) rfl (by kernel_rfl) (by kernel_rfl) (by kernel_rfl) (fun _ _ _ h => h) (Or.inl ⟨by rfl, fun w _ => by go_simp⟩) hS ?_
  try simp only [Act.put, List.getElem_toArray, List.getElem_cons_zero, List.getElem_cons_succ, List.setIfInBounds_toArray, List.set_cons_zero, List.set_cons_succ]
  refine wpAnyH_ready (rs := [2]) (by kernel_rfl) (by simp) ?_
  refine AllReadyH.cons rfl (fun K hK => ?_) AllReadyH.nil
  go_simp
  go_at_call 38
  refine Calls.mono (P1.out _) ?_
  rintro e wc ⟨rfl, hcb⟩
  refine hK.out _ _ (⟨hS.1.below hcb hS.1.lt, hS.2.1.below hcb hS.2.1.lt, hS.2.2.trans (hcb.mono hS.2.2.size)⟩) fun hS => ?_
  try simp only [Act.put, List.getElem_toArray, List.getElem_cons_zero, List.getElem_cons_succ, List.setIfInBounds_toArray, List.set_cons_zero, List.set_cons_succ]
  clear hcb
  refine wpAnyH_take (i := 3) (v := .string (strOfNums B1)) rfl (by kernel_rfl) (by kernel_rfl) (by kernel_rfl) (fun _ _ _ h => h) (Or.inl ⟨by rfl, fun w _ => by go_simp⟩) hS ?_
  try simp only [Act.put, List.getElem_toArray, List.getElem_cons_zero, List.getElem_cons_succ, List.setIfInBounds_toArray, List.set_cons_zero, List.set_cons_succ]
  refine wpAnyH_ready (rs := [7]) (by kernel_rfl) (by simp) ?_
  refine AllReadyH.cons rfl (fun K hK => ?_) AllReadyH.nil
  go_simp
  go_at_call 38
  refine Calls.mono (P2.out _) ?_
  rintro e w2_7 ⟨rfl, hcb⟩
  refine hK.out _ _ (⟨hS.1.below hcb hS.1.lt, hS.2.1.below hcb hS.2.1.lt, hS.2.2.trans (hcb.mono hS.2.2.size)⟩) fun hS => ?_
  try simp only [Act.put, List.getElem_toArray, List.getElem_cons_zero, List.getElem_cons_succ, List.setIfInBounds_toArray, List.set_cons_zero, List.set_cons_succ]
  clear hcb
  refine wpAnyH_take (i := 8) (v := .string (strOfNums B2)) rfl (by kernel_rfl) (by kernel_rfl) (by kernel_rfl) (fun _ _ _ h => h) (Or.inl ⟨by rfl, fun w _ => by go_simp⟩) hS ?_
  try simp only [Act.put, List.getElem_toArray, List.getElem_cons_zero, List.getElem_cons_succ, List.setIfInBounds_toArray, List.set_cons_zero, List.set_cons_succ]
  refine wpAnyH_ready (rs := [12]) (by kernel_rfl) (by simp) ?_
  refine AllReadyH.cons rfl (fun K hK => ?_) AllReadyH.nil
  go_simp
  go_at_call 38
  refine Calls.mono (P3.out _) ?_
  rintro e w3_12 ⟨rfl, hcb⟩
  refine hK.out _ _ (⟨hS.1.below hcb hS.1.lt, hS.2.1.below hcb hS.2.1.lt, hS.2.2.trans (hcb.mono hS.2.2.size)⟩) fun hS => ?_
  try simp only [Act.put, List.getElem_toArray, List.getElem_cons_zero, List.getElem_cons_succ, List.setIfInBounds_toArray, List.set_cons_zero, List.set_cons_succ]
  clear hcb
  refine wpAnyH_take (i := 13) (v := .string (strOfNums B3)) rfl (by kernel_rfl) (by kernel_rfl) (by kernel_rfl) (fun _ _ _ h => h) (Or.inl ⟨by rfl, fun w _ => by go_simp⟩) hS ?_
  try simp only [Act.put, List.getElem_toArray, List.getElem_cons_zero, List.getElem_cons_succ, List.setIfInBounds_toArray, List.set_cons_zero, List.set_cons_succ]
  refine wpAnyH_ready (rs := [16]) (by kernel_rfl) (by simp) ?_
  refine AllReadyH.cons rfl (fun K hK => ?_) AllReadyH.nil
  go_simp
  go_at_call 38
  refine Calls.mono (P4.out _) ?_
  rintro e w4_16 ⟨rfl, hcb⟩
  refine hK.out _ _ (⟨hS.1.below hcb hS.1.lt, hS.2.1.below hcb hS.2.1.lt, hS.2.2.trans (hcb.mono hS.2.2.size)⟩) fun hS => ?_
  try simp only [Act.put, List.getElem_toArray, List.getElem_cons_zero, List.getElem_cons_succ, List.setIfInBounds_toArray, List.set_cons_zero, List.set_cons_succ]
  clear hcb
  refine wpAnyH_take (i := 17) (v := .string (strOfNums B4)) rfl (by kernel_rfl) (by kernel_rfl) (by kernel_rfl) (fun _ _ _ h => h) (Or.inl ⟨by rfl, fun w _ => by go_simp⟩) hS ?_
  try simp only [Act.put, List.getElem_toArray, List.getElem_cons_zero, List.getElem_cons_succ, List.setIfInBounds_toArray, List.set_cons_zero, List.set_cons_succ]
  refine wpAnyH_ready (rs := [21]) (by kernel_rfl) (by simp) ?_
  refine AllReadyH.cons rfl (fun K hK => ?_) AllReadyH.nil
  go_simp
  go_at_call 38
  refine Calls.mono (P5.out _) ?_
  rintro e w5_21 ⟨rfl, hcb⟩
  refine hK.out _ _ (⟨hS.1.below hcb hS.1.lt, hS.2.1.below hcb hS.2.1.lt, hS.2.2.trans (hcb.mono hS.2.2.size)⟩) fun hS => ?_
  try simp only [Act.put, List.getElem_toArray, List.getElem_cons_zero, List.getElem_cons_succ, List.setIfInBounds_toArray, List.set_cons_zero, List.set_cons_succ]
  clear hcb
  refine wpAnyH_take (i := 22) (v := .string (strOfNums B5)) rfl (by kernel_rfl) (by kernel_rfl) (by kernel_rfl) (fun _ _ _ h => h) (Or.inl ⟨by rfl, fun w _ => by go_simp⟩) hS ?_
  try simp only [Act.put, List.getElem_toArray, List.getElem_cons_zero, List.getElem_cons_succ, List.setIfInBounds_toArray, List.set_cons_zero, List.set_cons_succ]
  refine wpAnyH_ready (rs := [26]) (by kernel_rfl) (by simp) ?_
  refine AllReadyH.cons rfl (fun K hK => ?_) AllReadyH.nil
  go_simp
  go_at_call 38
  refine Calls.mono (P6.out _) ?_
  rintro e w6_26 ⟨rfl, hcb⟩
  refine hK.out _ _ (⟨hS.1.below hcb hS.1.lt, hS.2.1.below hcb hS.2.1.lt, hS.2.2.trans (hcb.mono hS.2.2.size)⟩) fun hS => ?_
  try simp only [Act.put, List.getElem_toArray, List.getElem_cons_zero, List.getElem_cons_succ, List.setIfInBounds_toArray, List.set_cons_zero, List.set_cons_succ]
  clear hcb
  refine wpAnyH_take (i := 27) (v := .string (strOfNums B6)) rfl (by kernel_rfl) (by kernel_rfl) (by kernel_rfl) (fun _ _ _ h => h) (Or.inl ⟨by rfl, fun w _ => by go_simp⟩) hS ?_
  try simp only [Act.put, List.getElem_toArray, List.getElem_cons_zero, List.getElem_cons_succ, List.setIfInBounds_toArray, List.set_cons_zero, List.set_cons_succ]
  refine wpAnyH_ready (rs := [31]) (by kernel_rfl) (by simp) ?_
  refine AllReadyH.cons rfl (fun K hK => ?_) AllReadyH.nil
  go_simp
  go_at_call 38
  refine Calls.mono (P7.out _) ?_
  rintro e w7_31 ⟨rfl, hcb⟩
  refine hK.out _ _ (⟨hS.1.below hcb hS.1.lt, hS.2.1.below hcb hS.2.1.lt, hS.2.2.trans (hcb.mono hS.2.2.size)⟩) fun hS => ?_
  try simp only [Act.put, List.getElem_toArray, List.getElem_cons_zero, List.getElem_cons_succ, List.setIfInBounds_toArray, List.set_cons_zero, List.set_cons_succ]
  clear hcb
  refine wpAnyH_take (i := 32) (v := .string (strOfNums B7)) rfl (by kernel_rfl) (by kernel_rfl) (by kernel_rfl) (fun _ _ _ h => h) (Or.inl ⟨by rfl, fun w _ => by go_simp⟩) hS ?_
  try simp only [Act.put, List.getElem_toArray, List.getElem_cons_zero, List.getElem_cons_succ, List.setIfInBounds_toArray, List.set_cons_zero, List.set_cons_succ]
  refine wpAnyH_ready (rs := [36]) (by kernel_rfl) (by simp) ?_
  refine AllReadyH.cons rfl (fun K hK => ?_) AllReadyH.nil
  go_simp
  go_at_call 38
  refine Calls.mono (P8.out _) ?_
  rintro e w8_36 ⟨rfl, hcb⟩
  refine hK.out _ _ (⟨hS.1.below hcb hS.1.lt, hS.2.1.below hcb hS.2.1.lt, hS.2.2.trans (hcb.mono hS.2.2.size)⟩) fun hS => ?_
  try simp only [Act.put, List.getElem_toArray, List.getElem_cons_zero, List.getElem_cons_succ, List.setIfInBounds_toArray, List.set_cons_zero, List.set_cons_succ]
  clear hcb
  refine wpAnyH_take (i := 37) (v := .string (strOfNums B8)) rfl (by kernel_rfl) (by kernel_rfl) (by kernel_rfl) (fun _ _ _ h => h) (Or.inl ⟨by rfl, fun w _ => by go_simp⟩) hS ?_
  try simp only [Act.put, List.getElem_toArray, List.getElem_cons_zero, List.getElem_cons_succ, List.setIfInBounds_toArray, List.set_cons_zero, List.set_cons_succ]
  refine wpAnyH_ready (rs := [41]) (by kernel_rfl) (by simp) ?_
  refine AllReadyH.cons rfl (fun K hK => ?_) AllReadyH.nil
  go_simp
  go_at_call 38
  refine Calls.mono (P9.out _) ?_
  rintro e w9_41 ⟨rfl, hcb⟩
  refine hK.out _ _ (⟨hS.1.below hcb hS.1.lt, hS.2.1.below hcb hS.2.1.lt, hS.2.2.trans (hcb.mono hS.2.2.size)⟩) fun hS => ?_
  try simp only [Act.put, List.getElem_toArray, List.getElem_cons_zero, List.getElem_cons_succ, List.setIfInBounds_toArray, List.set_cons_zero, List.set_cons_succ]
  clear hcb
  refine wpAnyH_take (i := 42) (v := .string (strOfNums B9)) rfl (by kernel_rfl) (by kernel_rfl) (by kernel_rfl) (fun _ _ _ h => h) (Or.inl ⟨by rfl, fun w _ => by go_simp⟩) hS ?_
  try simp only [Act.put, List.getElem_toArray, List.getElem_cons_zero, List.getElem_cons_succ, List.setIfInBounds_toArray, List.set_cons_zero, List.set_cons_succ]
  refine wpAnyH_take (i := 43) (v := .string (strOfNums B9)) rfl (by kernel_rfl) (by kernel_rfl) (by kernel_rfl) (fun _ _ _ h => h) (Or.inl ⟨by rfl, fun w _ => by go_simp⟩) hS ?_
  try simp only [Act.put, List.getElem_toArray, List.getElem_cons_zero, List.getElem_cons_succ, List.setIfInBounds_toArray, List.set_cons_zero, List.set_cons_succ]
  refine wpAnyH_done (by kernel_rfl) ?_ _
  clear P1 P2 P3 P4 P5 P6 P7 P8 P9 e1 e2 e4 e5 e6 e7 e8 t1 t2 t3 t4 t5 t6 t7 t8 t9 y1 y2 y3 y4 y5 y6 y7 y8 z1 z2 z3 z4 z5 z6 z7 z8 z9
  have HS : Hid _ := fun w => sum_any (strOfNums B9) w (by rw [y9]; decide)
  obtain ⟨q, hq⟩ : ∃ q, Hid (u (more 0#32 (strOfNums B9)) = q) := ⟨_, rfl⟩
  have hq' : 0 ≤ q ∧ q ≤ 4294967295 := by rw [← hq.out]; exact u_fits _
  rw [hq.out] at HS
  obtain ⟨A10, HA10⟩ : ∃ A, Hid (low q 4 = A) := ⟨_, rfl⟩
  have P10 : Hid _ := put_at q 4 A10 HA10.out (by omega) (by omega) (by decide)
  have z10 : (strOfNums A10).size = 4 := by rw [strOfNums_size, ← HA10.out, low_length]
  obtain ⟨B10, HB10⟩ : ∃ B, Hid (B9 ++ A10 = B) := ⟨_, rfl⟩
  have t10 : strOfNums B9 ++ strOfNums A10 = strOfNums B10 := by rw [tx_app, HB10.out]
  have e10 : IntKind.u64.wrap q = q := by rw [IntKind.wrap_u64]; omega
  have HF : Hid (textT m = B10) := by
    show _ = _
    unfold textT
    rw [show headT m = B9 by unfold headT; rw [HA1.out, HA2.out, HA3.out, HA4.out, HA5.out, HA6.out, HA7.out, HA8.out, HA9.out, HB1.out, HB2.out, HB3.out, HB4.out, HB5.out, HB6.out, HB7.out, HB8.out, HB9.out], hq.out, HA10.out, HB10.out]
  have hb := hS.2.2
  clear hS
  go_wp2_with (first
    | (go_at_call 39; refine (HS.out _).mono ?_; clear HS; rintro ex w' ⟨rfl, rfl⟩)
    | (go_at_call 38; refine (P10.out _).mono ?_; clear P10; rintro ex w5 ⟨rfl, b5⟩))
  go_ret
  exact ⟨by rw [HF.out, ← t10]; rfl, hb.trans (b5.mono hb.size)⟩
end Go.Proofs.Ytcbjjofckhohjaa
