/-
  Proved: for every text s, every int at and every uint32 bits the Go function varvelaw02.CrcTurned returns true and leaves its arguments as they were; no condition.
-/
import Derived.Test.YtahiahkjglenoabRows
import Derived.WalkKit
import Derived.ProofKit
import Derived.OpenShut
import Derived.ShutString
import Derived.Test.YtahiahkjglenoabAwake
import Derived.Test.YtahiahkjglenoabBurst
import Derived.Laws.IdiomStrings
namespace Go.Proofs.Ytahiahkjglenoab.crcTurned
open Go.ChangeShapes Go.WideShapes Go.ChangeAt Go.RowKit
open Go.ChangeMaps (open_string shut_string)
set_option linter.unusedVariables false
set_option linter.unusedSimpArgs false

theorem own : ownKnob Try.prog.godebug = none := by kernel_rfl

/-- The byte at a place, as a number. -/
def bN (s : ByteArray) (i : Nat) : Nat := if h : i < s.size then (s[i]'h).toNat else 0
theorem bN_lt (s : ByteArray) (i : Nat) : bN s i < 256 := by
  unfold bN
  split
  · exact UInt8.toNat_lt _
  · omega
/-- The byte at a place when j of the five have been turned. -/
def cv (s : ByteArray) (p X j i : Nat) : Nat := if p ≤ i ∧ i < p + j then bN s i ^^^ (X / 2 ^ (8 * (i - p)) % 256) else bN s i
/-- The bytes in memory when j of the five have been turned. -/
def Cells (s : ByteArray) (p X B j : Nat) (wr : World) : Prop :=
  ∀ i, i < s.size → wr.cell? ⟨B, i, none⟩ = some (.int .u8 (cv s p X j i : Nat)) ∧ wr.frozen? ⟨B, i, none⟩ = false
theorem cells_start (s : ByteArray) (p X : Nat) (w : World) (c : Nat) :
    Cells s p X w.heap.size 0 (w.alloc (.cells (bytesRow s c) 5 ((bytesRow s c).size, (bytesRow s c).size + 1))).drew := by
  intro i hi
  have hz : i < (bytesRow s c).size := by
    have := bytesRow_at s c i hi
    rcases Nat.lt_or_ge i (bytesRow s c).size with q | q
    · exact q
    · rw [Array.getElem?_eq_none q] at this; cases this
  refine ⟨?_, ?_⟩
  · show (w.alloc (.cells (bytesRow s c) 5 ((bytesRow s c).size, (bytesRow s c).size + 1))).cell? ⟨w.heap.size, i, none⟩ = _
    rw [World.cell?_alloc_mark, bytesRow_at s c i hi]
    unfold cv bN
    rw [if_neg (by omega), dif_pos hi]
    rfl
  · show (w.alloc (.cells (bytesRow s c) 5 ((bytesRow s c).size, (bytesRow s c).size + 1))).frozen? ⟨w.heap.size, i, none⟩ = _
    rw [World.frozen?_alloc_mark]
    simp
    omega
theorem cells_step {s : ByteArray} {p X B j : Nat} {wr : World} (h : Cells s p X B j wr) (hp : p + j < s.size) :
    Cells s p X B (j + 1) (wr.setCell ⟨B, p + j, none⟩ (.int .u8 ((bN s (p + j) ^^^ (X / 2 ^ (8 * j) % 256) : Nat) : Int))) := by
  intro i hi
  refine ⟨?_, ?_⟩
  · by_cases e : i = p + j
    · subst e
      rw [World.cell?_setCell_same _ _ _ (h (p + j) hi).1]
      unfold cv
      rw [if_pos (by omega), show p + j - p = j by omega]
    · rw [World.cell?_setCell_other _ _ _ _ (by intro q; injection q; omega), (h i hi).1]
      unfold cv
      by_cases l : p ≤ i ∧ i < p + j
      · rw [if_pos l, if_pos (by omega)]
      · rw [if_neg l, if_neg (by omega)]
  · rw [World.frozen?_setCell]; exact (h i hi).2
theorem cv_code (s : ByteArray) (p X j : Nat) : bits .xor .u8 ((cv s p X j (p + j) : Nat) : Int) ((X : Int) / 2 ^ (8 * j) % 256) = ((bN s (p + j) ^^^ (X / 2 ^ (8 * j) % 256) : Nat) : Int) := by
  have e : (X : Int) / 2 ^ (8 * j) % 256 = ((X / 2 ^ (8 * j) % 256 : Nat) : Int) := by simp
  have c : cv s p X j (p + j) = bN s (p + j) := by unfold cv; rw [if_neg (by omega)]
  rw [e, c, u8_xor_nat _ _ (bN_lt s _) (by omega)]
/-- The bytes when all five have been turned. -/
def cvs (s : ByteArray) (p X : Nat) : List Int := (List.range s.size).map fun i => (cv s p X 5 i : Nat)
theorem cvs_length (s : ByteArray) (p X : Nat) : (cvs s p X).length = s.size := by simp [cvs]
theorem cells_string {s : ByteArray} {p X B : Nat} {wr : World} (h : Cells s p X B 5 wr) (c : Nat) :
    (Go.convert 36 9 (.slice (some ⟨B, 0, none⟩) s.size c)).run Try.prog wr = .ok (.string (strOfNums (cvs s p X))) wr := by
  refine run_convert_bytes_arg (P := Try.prog) wr 36 5 Try.underlying36 Try.underlying5 B 0 s.size c (cvs s p X) (cvs_length s p X) ?_ 9 Try.underlying9
  intro i hi
  rw [Nat.zero_add, (h i hi).1]
  simp [cvs, List.getD, hi]
theorem cv_lt (s : ByteArray) (p X j i : Nat) : cv s p X j i < 256 := by
  unfold cv
  split
  · exact Nat.xor_lt_two_pow (n := 8) (bN_lt s i) (by omega)
  · exact bN_lt s i
theorem bAt_str (xs : List Int) (i : Nat) (h : i < xs.length) (n : Nat) (hn : n < 256) (hx : xs[i] = (n : Int)) : bAt (strOfNums xs) i = BitVec.ofNat 32 n := by
  unfold bAt
  have hs : i < (strOfNums xs).size := by rw [strOfNums_size]; exact h
  rw [dif_pos hs]
  congr 1
  show ((strOfNums xs).data[i]'hs).toNat = n
  simp only [strOfNums, List.getElem_toArray, List.getElem_map, hx, UInt8.toNat_ofNat']
  omega
theorem bAt_N (s : ByteArray) (i : Nat) (h : i < s.size) : bAt s i = BitVec.ofNat 32 (bN s i) := by
  unfold bAt bN
  rw [dif_pos h, dif_pos h]
theorem ofNat_xor (a b : Nat) : BitVec.ofNat 32 (a ^^^ b) = BitVec.ofNat 32 a ^^^ BitVec.ofNat 32 b := by
  apply BitVec.eq_of_getLsbD_eq
  intro i hi
  simp [BitVec.getLsbD_ofNat, Nat.testBit_xor, hi]
theorem differ (s : ByteArray) (p X : Nat) (r : BitVec 32) (t : Nat) (ht : t < 8) (hr : r ≠ 0#32) (hp : p + 5 ≤ s.size) (hX : X = r.toNat * 2 ^ t) :
    more 0#32 (strOfNums (cvs s p X)) ≠ more 0#32 s := by
  intro h
  unfold more at h
  have h1 : run (bAt (strOfNums (cvs s p X))) s.size (~~~ 0#32) = run (bAt s) s.size (~~~ 0#32) := by
    have := congrArg (fun x : BitVec 32 => ~~~ x) h
    simp only [BitVec.not_not] at this
    rw [strOfNums_size, cvs_length] at this
    exact this
  refine seen (bAt s) (bAt (strOfNums (cvs s p X))) s.size p r _ t ht hr hp ?_ h1
  intro i hi
  rw [bAt_str (cvs s p X) i (by rw [cvs_length]; exact hi) (cv s p X 5 i) (cv_lt s p X 5 i) (by simp [cvs]), bAt_N s i hi]
  unfold cv turnedIn dByte
  by_cases c : p ≤ i ∧ i < p + 5
  · rw [if_pos c, if_pos c, ofNat_xor, hX]
  · rw [if_neg c, if_neg c, BitVec.xor_zero]
set_option maxHeartbeats 2000000 in
theorem walk (a0 : ByteArray) (a1 : Int) (a2 : Int) (w0 : a0.size ≤ maxLen) (w1 : (Lit.int .i64 a1).wf = true) (w2 : (Lit.int .u32 a2).wf = true) (w : World) :
    Calls Try.prog 8 #[.string a0, .int .i64 a1, .int .u32 a2] w fun e w' => e = .returned (.bool true) ∧ Below w.heap.size w w' := by
  obtain ⟨r, rfl⟩ := u_of a2 (bounds_u32 w2)
  have b1 := bounds_i64 w1
  have hu := u_fits r
  have HS : Hid (a0.size ≤ maxLen) := w0
  unfold maxLen at w0
  clear w1 w2
  by_cases h1 : (65536 : Int) < (a0.size : Int)
  · go_enter Try.func8, Try.ntmps8
    go_wp2_with (go_at_call 11; refine (awake_any _).mono ?_; rintro e wa ⟨rfl, rfl⟩)
    go_ret
    exact ⟨rfl, Below.refl _ _⟩
  · by_cases h2 : (a0.size : Int) < 5
    · go_enter Try.func8, Try.ntmps8
      go_wp2_with (go_at_call 11; refine (awake_any _).mono ?_; rintro e wa ⟨rfl, rfl⟩)
      go_ret
      exact ⟨rfl, Below.refl _ _⟩
    · by_cases h3 : u r = 0
      · have t3 : (u r == 0) = true := by simp [h3]
        clear h3
        go_enter Try.func8, Try.ntmps8
        go_wp2_with (go_at_call 11; refine (awake_any _).mono ?_; rintro e wa ⟨rfl, rfl⟩)
        go_ret
        exact ⟨rfl, Below.refl _ _⟩
      · have t3 : (u r == 0) = false := by simp [h3]
        clear h3
        have hcv := run_bytes_of_string (P := Try.prog) w 9 36 5 a0 Try.underlying9 Try.underlying36 Try.underlying5
        obtain ⟨A, eA⟩ : ∃ A : Int, wrap64 ((IntKind.u64.wrap a1).tmod (8 * ((a0.size : Int) - 4))) = A := ⟨_, rfl⟩
        have hA : 0 ≤ A ∧ A < 8 * ((a0.size : Int) - 4) := by
          have p1 : 0 ≤ IntKind.u64.wrap a1 := by rw [IntKind.wrap_u64]; omega
          rw [Int.tmod_eq_emod_of_nonneg p1] at eA
          have q1 := Int.emod_nonneg (IntKind.u64.wrap a1) (show 8 * ((a0.size : Int) - 4) ≠ 0 by omega)
          have q2 := Int.emod_lt_of_pos (IntKind.u64.wrap a1) (show 0 < 8 * ((a0.size : Int) - 4) by omega)
          unfold wrap64 at eA
          omega
        obtain ⟨p, hp⟩ : ∃ p : Nat, A / 8 = (p : Int) := ⟨(A / 8).toNat, by omega⟩
        obtain ⟨t, ht⟩ : ∃ t : Nat, A % 8 = (t : Int) := ⟨(A % 8).toNat, by omega⟩
        have hp5 : p + 5 ≤ a0.size := by omega
        have ht8 : t < 8 := by omega
        have m1 : A.tmod 8 = (t : Int) := by rw [Int.tmod_eq_emod_of_nonneg hA.1]; exact ht
        have m2 : A.tdiv 8 = (p : Int) := by rw [Int.tdiv_eq_ediv_of_nonneg hA.1]; exact hp
        obtain ⟨X, HX⟩ : ∃ X : Nat, Hid (X = r.toNat * 2 ^ t) := ⟨_, rfl⟩
        have hX64 : X < 18446744073709551616 := by
          rw [HX.out]
          have h2 : 2 ^ t ≤ 2 ^ 7 := Nat.pow_le_pow_right (by decide) (by omega)
          have h3 : r.toNat * 2 ^ t ≤ 4294967295 * 2 ^ 7 := Nat.mul_le_mul (by have := r.isLt; omega) h2
          omega
        have eX : IntKind.u64.wrap (u r * 2 ^ t) = (X : Int) := by
          rw [IntKind.wrap_u64]
          have : u r * 2 ^ t = (X : Int) := by rw [HX.out]; unfold u; simp
          rw [this]; omega
        clear hA b1
        go_enter Try.func8, Try.ntmps8
        go_wp2_with fail
        go_loopw [9] (fun i wr => ∃ j : Nat, j ≤ 5 ∧ i = .int .i64 j ∧ Cells a0 p X w.heap.size j wr ∧ Below w.heap.size w wr) (fun i _ => 5 - (intOf i).toNat)
        case atStart => exact ⟨0, by omega, rfl, cells_start a0 p X w _, ((Below.refl _ _).alloc (Nat.le_refl _) _).drew⟩
        case round =>
          obtain ⟨j, hj, rfl, hc, hb⟩ := hrel
          by_cases hlt : j < 5
          · have hlt' : (j : Int) < 5 := by omega
            have hc1 := (hc (p + j) (by omega)).1
            have hf1 := (hc (p + j) (by omega)).2
            have R := cells_step hc (show p + j < a0.size by omega)
            rw [← cv_code a0 p X j] at R
            have G := hb.setCell (p := ⟨w.heap.size, p + j, none⟩) (Nat.le_refl _) (.int .u8 (bits .xor .u8 ((cv a0 p X j (p + j) : Nat) : Int) ((X : Int) / 2 ^ (8 * j) % 256)))
            go_wp2_with fail
            go_region
            all_goals go_wp2_with fail
            all_goals go_roundw
            all_goals first
              | exact ⟨j + 1, by omega, by go_num, R, G.drew⟩
              | (simp [intOf]; omega)
          · have e : j = 5 := by omega
            subst e
            have hs := cells_string hc (grownCap w a0.size 0 5)
            have HD : Hid (((u (more 0#32 (strOfNums (cvs a0 p X)))) != (u (more 0#32 a0))) = true) := by
              show _ = _
              have z : r ≠ 0#32 := by
                intro z
                rw [z] at t3
                cases t3
              have := differ a0 p X r t ht8 z hp5 HX.out
              simp only [bne_iff_ne]
              exact fun q => this (u_inj q)
            have tD := HD.out
            have HZ : Hid ((strOfNums (cvs a0 p X)).size ≤ maxLen) := by show _ ≤ _; rw [strOfNums_size, cvs_length]; exact HS.out
            go_wp2_with (go_at_call 12; refine (sum_any _ _ ?_).mono ?_; (first | exact HS.out | exact HZ.out); rintro e wa ⟨rfl, rfl⟩)
            go_ret
            exact ⟨rfl, hb⟩

/-! ### THE ROW's STEP: WRITTEN OUT: LEAVE IT -/
set_option maxRecDepth 100000 in
theorem lifted (os : Os) (started : os.Started) (H : Type) (enc : TypeId × Value → H) :
    ReturnsInHanded {} Try.checked os 8 .any (Rows.crcTurnedSpec.pre6 enc Try.prog Try.f8 Rows.crcTurnedRow.domain false) (Rows.crcTurnedSpec.post enc Try.prog Try.f8 false true false false) := by
  refine returnsInHanded_of_change (C := Try.checked) own started (by kernel_rfl) Try.func8
    (ChangeSpec.witness6 (enc := enc) (C := Try.checked) false ⟨#[], #[.string ByteArray.empty, .int .i64 0, .int .u32 0], []⟩ 8 (by kernel_rfl) (by kernel_rfl) (by kernel_rfl) (by kernel_rfl)) ?_
  intro W base args ds gs before hval0 hW hcnd _
  have hval : ∀ (j : Nat) t v, Try.f8.params[j]? = some t → args[j]? = some v → Value.okWide Try.prog W .any base t v := hval0
  have hW' := hW
  obtain ⟨p, q, hA0, hV, rfl, hfz, hnd⟩ := hW
  have hA : DataW.TrodAll enc Try.prog W 0 (fun _ => true) true Try.f8.params.toList args.toList ds p := hA0
  rw [Try.params8] at hA hval
  obtain ⟨v0, vs0, d0, ds0, p0, q0, hargs, rfl, rfl, h0, r0⟩ := trodAll_cons hA
  obtain ⟨v1, vs1, d1, ds1, p1, q1, rfl, rfl, rfl, h1, r1⟩ := trodAll_cons r0
  obtain ⟨v2, vs2, d2, ds2, p2, q2, rfl, rfl, rfl, h2, r2⟩ := trodAll_cons r1
  obtain ⟨rfl, rfl, rfl⟩ := trodAll_nil r2
  obtain rfl : args = #[v0, v1, v2] := by cases args; simp_all
  obtain ⟨rfl, rfl⟩ := trodVars_none hV
  obtain ⟨a0, rfl, rfl, rfl, w0⟩ := open_string Try.underlying9 (hval 0 9 v0 rfl rfl) h0
  obtain ⟨a1, rfl, rfl, rfl, w1⟩ := open_int Try.underlying3 (hval 1 3 v1 rfl rfl) h1
  obtain ⟨a2, rfl, rfl, rfl, w2⟩ := open_int Try.underlying26 (hval 2 26 v2 rfl rfl) h2
  clear hA0 hval0
  simp only [List.append_nil] at hW'
  refine (walk a0 a1 a2 w0 w1 w2 W).mono fun e W' ⟨he, hg⟩ => ?_
  subst he
  exact ⟨_, rfl, ⟨_, _, _, [], [], [], hW', (trodAll_cons_mk (shut_bool Try.underlying4 _) trodAll_mk0), (trodAll_cons_mk (shut_string Try.underlying9 w0) (trodAll_cons_mk (shut_int Try.underlying3 w1) (trodAll_cons_mk (shut_int Try.underlying26 w2) trodAll_mk0))), rfl,
    hg.frame _, fun h => by cases h⟩⟩

theorem over : Rows.crcTurnedRow.holds Try.pinned (OpenSpec.ofChange Rows.crcTurnedSpec) :=
  OpenClaim.holds_of_wide 8 Try.f8 rfl rfl rfl rfl rfl rfl rfl ⟨rfl, rfl, rfl, rfl, rfl⟩ rfl rfl rfl rfl rfl (by kernel_rfl) Try.func8 (by kernel_rfl)
    (of_decide_eq_true (by kernel_rfl)) (by unfold Func.isWrapper; first | (rw [if_pos (by decide +kernel)]; kernel_rfl) | (rw [if_neg (by decide +kernel)]; exact ⟨rfl, rfl⟩))
    (fun os started H enc _ => lifted os started H enc)

/-- ████ THE STATEMENT ████ -/
theorem proved : Rows.CrcTurnedSaid :=
  over
#print axioms proved
end Go.Proofs.Ytahiahkjglenoab.crcTurned
