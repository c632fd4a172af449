/-
  Proved here: what disk.New makes, and the block that the statements fill with bytes.
-/
import Derived.Test.YtkgmhliocfbdfaaRead
namespace Go.Proofs.Ytkgmhliocfbdfaa
open Go.ChangeShapes Go.WideShapes Go.ChangeAt Go.RowKit
set_option linter.unusedVariables false
set_option linter.unusedSimpArgs false

/-- A new disk. -/
def Dsk.new (n : Nat) : Dsk := ⟨n, fun _ _ => none, [], false, 0, 0, fun _ => false⟩
def Loc.new (k : Nat) : Loc := ⟨k, k + 1, .slice none 0 0, .map none⟩
theorem new_at (w : World) (n : Nat) (h1 : 1 ≤ n) (h2 : n ≤ 2048) : DAt (((w.alloc (.map #[] 0)).alloc (.map #[] 0)).alloc (.cells (dcells (Dsk.new n) (Loc.new w.heap.size)) 65)) (w.heap.size + 2) (Dsk.new n) (Loc.new w.heap.size) 0 where
  row := by have := Row.new ((w.alloc (.map #[] 0)).alloc (.map #[] 0)) (dcells (Dsk.new n) (Loc.new w.heap.size)) 65; simpa using this
  sure := ⟨0, ((SMap.made w).kept (Below.heap_alloc _ _ _ (by simp))).kept (Below.heap_alloc _ _ _ (by simp [Loc.new]; omega)), Nat.le_refl _⟩
  fresh := by
    have := (SMap.made (w.alloc (.map #[] 0))).kept (w' := ((w.alloc (.map #[] 0)).alloc (.map #[] 0)).alloc (.cells (dcells (Dsk.new n) (Loc.new w.heap.size)) 65)) (Below.heap_alloc _ _ _ (by simp))
    simpa [Loc.new, Dsk.new, over] using this
  ab := by simp [Loc.new]
  pend := World.ownsRow_nil _ _ _ _
  fails := FMap.none _
  fa := by simp [Loc.new]
  fb := by simp [Loc.new]
  big := by decide
  okp := fun q hq => nomatch hq
  small := ⟨h1, h2⟩
  opsn := by simp [Dsk.new]
  fusew := wf_of (by simp [Dsk.new]) (by simp [Dsk.new])
theorem new_none (n : Int) (hn : ¬ (1 ≤ n ∧ n ≤ 2048)) (w : World) : Calls Try.prog 9 #[.int .i64 n] w fun e w' => e = .returned (.pointer none) ∧ w' = w := by
  by_cases h : n < 1
  · clear hn
    go_enter Try.func9, Try.ntmps9
    go_wp2
    go_ret
    exact ⟨rfl, rfl⟩
  · have h' : n > 2048 := by omega
    clear hn
    go_enter Try.func9, Try.ntmps9
    go_wp2
    go_ret
    exact ⟨rfl, rfl⟩
theorem new_walk (n : Nat) (h1 : 1 ≤ n) (h2 : n ≤ 2048) (w : World) :
    Calls Try.prog 9 #[.int .i64 n] w fun e w' => e = .returned (.pointer (some ⟨w.heap.size + 1 + 1, 0, none⟩)) ∧ w' = (((w.alloc (.map #[] 0)).alloc (.map #[] 0)).alloc (.cells (dcells (Dsk.new n) (Loc.new w.heap.size)) 65)) := by
  have hmm := @run_makeMap Try.prog
  have k1 : ¬ (n : Int) < 1 := by omega
  have k2 : ¬ (n : Int) > 2048 := by omega
  go_enter Try.func9, Try.ntmps9
  go_wp2
  go_ret
  exact ⟨rfl, rfl⟩
theorem new_some (n : Nat) (h1 : 1 ≤ n) (h2 : n ≤ 2048) (w : World) :
    Calls Try.prog 9 #[.int .i64 n] w fun e w' => e = .returned (.pointer (some ⟨w.heap.size + 2, 0, none⟩)) ∧ DAt w' (w.heap.size + 2) (Dsk.new n) (Loc.new w.heap.size) 0 ∧ Below w.heap.size w w' := by
  refine (new_walk n h1 h2 w).mono ?_
  rintro e w' ⟨rfl, rfl⟩
  exact ⟨rfl, new_at w n h1 h2, (((Below.refl _ _).alloc (Nat.le_refl _) _).alloc (by simp) _).alloc (by simp; omega) _⟩
theorem new_foot (k j : Nat) (h : foot (k + 2) (Loc.new k) j) : k ≤ j := by
  rcases h with rfl | rfl | rfl | e | e
  · omega
  · exact Nat.le_refl _
  · simp [Loc.new]
  · simp [Loc.new, Value.ownBlock] at e
  · simp [Loc.new] at e

/-- The block of which each byte hangs on a number. -/
def filled (b : Int) : List Int := fl 256 fun j => (b + (j / 64 : Nat)) % 256
theorem filled_length (b : Int) : (filled b).length = 256 := fl_length _ _
theorem filled_bytes (b : Int) : Bytes (filled b) := fl_bytes _ _ fun j _ => by omega
set_option maxRecDepth 20000 in
theorem filled_any (b : Int) (hb : 0 ≤ b ∧ b ≤ 255) (w : World) : Calls Try.prog 14 #[.int .u8 b] w fun e w' => e = .returned (.agg (bs (filled b))) ∧ Below w.heap.size w w' := by
  have hz := zero35
  have a0 : Row ((w.alloc (.cells (bs (zs 256)) 35)).alloc (.cells (bs (zs 256)) 35)) w.heap.size (bs (zs 256)) 35 := (Row.new _ _ _).alloc _
  have a1 : Row ((w.alloc (.cells (bs (zs 256)) 35)).alloc (.cells (bs (zs 256)) 35)) (w.heap.size + 1) (bs (zs 256)) 35 := by have := Row.new (w.alloc (.cells (bs (zs 256)) 35)) (bs (zs 256)) 35; simpa using this
  have ab : Below w.heap.size w ((w.alloc (.cells (bs (zs 256)) 35)).alloc (.cells (bs (zs 256)) 35)) := ((Below.refl _ _).alloc (Nat.le_refl _) _).alloc (by simp) _
  obtain ⟨f, Hf⟩ : ∃ f : Nat → Int, Hid (∀ j, (b + (j / 64 : Nat)) % 256 = f j) := ⟨fun j => (b + (j / 64 : Nat)) % 256, fun _ => rfl⟩
  have HE : Hid (filled b = upto 256 f 256) := by
    show _ = _
    rw [upto_whole]; unfold filled
    congr 1; funext j; exact Hf.out j
  rw [HE.out]
  have HL : Hid (∀ k, (upto 256 f k).length = 256) := upto_length 256 f
  have HS : Hid (∀ k, (upto 256 f k).set k (f k) = upto 256 f (k + 1)) := upto_step 256 f
  go_enter Try.func14, Try.ntmps14
  go_wp2
  generalize (w.alloc (.cells (bs (zs 256)) 35)).alloc (.cells (bs (zs 256)) 35) = w1 at a0 a1 ab ⊢
  have HZ : Hid (zs 256 = upto 256 f 0) := upto_zero 256 f
  rw [HZ.out] at a1
  go_loopw [4] (fun i wr => ∃ k : Nat, i = .int .i64 k ∧ k ≤ 256 ∧ Row wr w.heap.size (bs (zs 256)) 35 ∧ Row wr (w.heap.size + 1) (bs (upto 256 f k)) 35 ∧ Below w.heap.size w wr) (fun i _ => 256 - (intOf i).toNat)
  case atStart => exact ⟨0, rfl, by omega, a0, a1, ab⟩
  case round =>
    clear a0 a1 ab
    obtain ⟨k, rfl, hk, r0, r1, rb⟩ := hrel
    have hl := HL.out k
    by_cases hlt : k < 256
    · have hs := HS.out k
      have hfk := Hf.out k
      obtain ⟨U, HU⟩ : ∃ U, Hid (upto 256 f k = U) := ⟨_, rfl⟩
      obtain ⟨U', HU'⟩ : ∃ U', Hid (upto 256 f (k + 1) = U') := ⟨_, rfl⟩
      obtain ⟨y, HY⟩ : ∃ y, Hid (f k = y) := ⟨_, rfl⟩
      rw [HU.out] at r1 hl hs
      rw [HU'.out] at hs
      rw [HY.out] at hs hfk
      have c1 := row_cell r1 k (by omega)
      have f1 := row_frozen r1 k
      have z1 := row_setCell r1 k y
      have z0 := row_setCell_other r0 (g := w.heap.size + 1) (by omega) k (.int .u8 y)
      have zb := rb.setCell (p := Addr.mk (w.heap.size + 1) k none) (by simp) (.int .u8 y)
      rw [hs] at z1
      have d1 : (k : Int).tdiv 64 = ((k / 64 : Nat) : Int) := by rw [Int.tdiv_eq_ediv_of_nonneg (by omega)]; omega
      have v1 : IntKind.i64.wrap (((k / 64 : Nat) : Int)) = ((k / 64 : Nat) : Int) := by rw [IntKind.wrap_i64]; omega
      have v2 : IntKind.u8.wrap (((k / 64 : Nat) : Int)) = ((k / 64 : Nat) : Int) := by rw [IntKind.wrap_u8]; omega
      have v3 : IntKind.u8.wrap (b + ((k / 64 : Nat) : Int)) = y := by rw [IntKind.wrap_u8, ← hfk]
      have hy : Hid ((b + (k : Int) / 64) % 256 = y) := by show _ = _; rw [← hfk]; omega
      clear hfk
      go_wp2
      go_roundw
      case rel =>
        rw [hy.out]
        exact ⟨k + 1, by go_num, by omega, z0, by rw [HU'.out]; exact z1, zb⟩
      case measure => simp [intOf]; omega
    · have e : k = 256 := by omega
      subst e
      obtain ⟨U, HU⟩ : ∃ U, Hid (upto 256 f 256 = U) := ⟨_, rfl⟩
      rw [HU.out] at r1 hl
      go_wp2_with (first
        | (refine load_row rfl 35 (.tmp 3) rfl (w.heap.size + 1) rfl 35 (bs U) r1 256 5 Try.underlying35 size35 (by rw [bs_size, hl]) ?_)
        | (refine store_row rfl 35 (.tmp 2) (.tmp 16) rfl w.heap.size U rfl rfl 35 _ r0 256 size35 (by rw [bs_size, zs_length]) hl ?_))
      rw [HU.out]
      refine bodyPost_ret (v := .agg (bs U)) ?_ rfl ⟨rfl, below_setRow rb (Nat.le_refl _) _⟩
      exact ret_row (fn := Try.f14) rfl _ _ w.heap.size 35 (bs U) 256 5 rfl (r0.set _) Try.underlying35 size35 (by rw [bs_size, hl])
end Go.Proofs.Ytkgmhliocfbdfaa
