/-
  Proved: for all texts a, b and c the Go function varvelaw02.CrcEven returns true and leaves its arguments as they were; no condition.
-/
import Derived.Test.YtahiahkjglenoacRows
import Derived.WalkKit
import Derived.ProofKit
import Derived.OpenShut
import Derived.ShutString
import Derived.Test.YtahiahkjglenoacAwake
import Derived.Deep.OwnRows
import Derived.Deep.QuietTactic
import Derived.BigQuiet
import Derived.Deep.RegionWith
namespace Go.Proofs.Ytahiahkjglenoac.crcEven
open Go.ChangeShapes Go.WideShapes Go.ChangeAt Go.RowKit
open Go.ChangeMaps (open_string shut_string)
open Go.ChangeShapes Go.WideShapes Go.ChangeAt Go.RowKit Go.Deep
set_option linter.unusedVariables false
set_option linter.unusedSimpArgs false

theorem own : ownKnob Try.prog.godebug = none := by kernel_rfl

theorem run_min4 (ts : Array TypeId) (t : TypeId) (x y z q : Int) (n : Int) (w : World) (hn : n = min (min (min x y) z) q) :
    (Builtin.min_ ts t #[.int .i64 x, .int .i64 y, .int .i64 z, .int .i64 q]).run Try.prog w = .ok (.int .i64 n) w := by
  subst hn
  simp [Builtin.min_, Builtin.min2]
  omega
/-- The byte at a place, as a number. -/
def bN (s : ByteArray) (i : Nat) : Nat := if h : i < s.size then (s[i]'h).toNat else 0
theorem bN_lt (s : ByteArray) (i : Nat) : bN s i < 256 := by
  unfold bN
  split
  · exact UInt8.toNat_lt _
  · omega
/-- The byte whose bits are those that an odd number of the three has. -/
def dv (a b c : ByteArray) (i : Nat) : Nat := bN a i ^^^ bN b i ^^^ bN c i
theorem dv_lt (a b c : ByteArray) (i : Nat) : dv a b c i < 256 :=
  Nat.xor_lt_two_pow (n := 8) (Nat.xor_lt_two_pow (n := 8) (bN_lt a i) (bN_lt b i)) (bN_lt c i)
theorem dv_code (a b c : ByteArray) (k : Nat) (ha : k < a.size) (hb : k < b.size) (hc : k < c.size) :
    bits .xor .u8 (bits .xor .u8 ((a[k]'ha).toNat : Int) ((b[k]'hb).toNat : Int)) ((c[k]'hc).toNat : Int) = ((dv a b c k : Nat) : Int) := by
  have e1 : (a[k]'ha).toNat = bN a k := by unfold bN; rw [dif_pos ha]
  have e2 : (b[k]'hb).toNat = bN b k := by unfold bN; rw [dif_pos hb]
  have e3 : (c[k]'hc).toNat = bN c k := by unfold bN; rw [dif_pos hc]
  rw [e1, e2, e3, u8_xor_nat _ _ (bN_lt a k) (bN_lt b k), u8_xor_nat _ _ (Nat.xor_lt_two_pow (n := 8) (bN_lt a k) (bN_lt b k)) (bN_lt c k)]
  rfl
/-- The bytes in memory when the first k have been laid. -/
def Cells (a b c : ByteArray) (n B k : Nat) (wr : World) : Prop :=
  ∀ i, i < n → wr.cell? ⟨B, i, none⟩ = some (.int .u8 (if i < k then ((dv a b c i : Nat) : Int) else 0)) ∧ wr.frozen? ⟨B, i, none⟩ = false
theorem cells_start (a b c : ByteArray) (n : Nat) (w : World) : Cells a b c n w.heap.size 0 (w.alloc (.cells (madeCells #[.int .u8 0] n) 5)) := by
  intro i hi
  refine ⟨?_, ?_⟩
  · rw [World.cell?_alloc_new]
    simp [madeCells, hi, Nat.mod_one]
  · rw [frozen?_alloc_cells]
    simp [World.frozen?]
theorem cells_step {a b c : ByteArray} {n B k : Nat} {wr : World} (h : Cells a b c n B k wr) (hk : k < n) :
    Cells a b c n B (k + 1) (wr.setCell ⟨B, k, none⟩ (.int .u8 ((dv a b c k : Nat) : Int))) := by
  intro i hi
  refine ⟨?_, ?_⟩
  · by_cases e : i = k
    · subst e
      rw [World.cell?_setCell_same _ _ _ (h i hi).1, if_pos (by omega)]
    · rw [World.cell?_setCell_other _ _ _ _ (by intro q; injection q; omega), (h i hi).1]
      by_cases l : i < k
      · rw [if_pos l, if_pos (by omega)]
      · rw [if_neg l, if_neg (by omega)]
  · rw [World.frozen?_setCell]; exact (h i hi).2
/-- All of them, as numbers. -/
def dvs (a b c : ByteArray) (n : Nat) : List Int := (List.range n).map fun i => (dv a b c i : Nat)
theorem dvs_length (a b c : ByteArray) (n : Nat) : (dvs a b c n).length = n := by simp [dvs]
theorem cells_string {a b c : ByteArray} {n B : Nat} {wr : World} (h : Cells a b c n B n wr) :
    ∀ m, (Go.convert 22 9 (.slice (some ⟨B, 0, none⟩) n n)).run Try.prog (wr.drewN m) = .ok (.string (strOfNums (dvs a b c n))) (wr.drewN m) := by
  intro m
  refine run_convert_bytes_arg (P := Try.prog) (wr.drewN m) 22 5 Try.underlying22 Try.underlying5 B 0 n n (dvs a b c n) (dvs_length a b c n) ?_ 9 Try.underlying9
  intro i hi
  show wr.cell? _ = _
  rw [Nat.zero_add, (h i hi).1, if_pos hi]
  simp [dvs, List.getD, hi]
theorem bAt_str (xs : List Int) (i : Nat) (h : i < xs.length) (n : Nat) (hn : n < 256) (hx : xs[i] = (n : Int)) : bAt (strOfNums xs) i = BitVec.ofNat 32 n := by
  unfold bAt
  have hs : i < (strOfNums xs).size := by rw [strOfNums_size]; exact h
  rw [dif_pos hs]
  congr 1
  show ((strOfNums xs).data[i]'hs).toNat = n
  simp only [strOfNums, List.getElem_toArray, List.getElem_map, hx, UInt8.toNat_ofNat']
  omega
theorem ofNat_xor (a b : Nat) : BitVec.ofNat 32 (a ^^^ b) = BitVec.ofNat 32 a ^^^ BitVec.ofNat 32 b := by
  apply BitVec.eq_of_getLsbD_eq
  intro i hi
  simp [BitVec.getLsbD_ofNat, Nat.testBit_xor, hi]
theorem bAt_extract (s : ByteArray) (n i : Nat) (hn : n ≤ s.size) (hi : i < n) : bAt (s.extract 0 n) i = BitVec.ofNat 32 (bN s i) := by
  unfold bAt bN
  rw [dif_pos (by rw [ByteArray.size_extract]; omega), dif_pos (by omega)]
  congr 1
  rw [ByteArray.getElem_extract]
  simp
theorem even (a b c : ByteArray) (n : Nat) (ha : n ≤ a.size) (hb : n ≤ b.size) (hc : n ≤ c.size) :
    more 0#32 (strOfNums (dvs a b c n)) = more 0#32 (a.extract 0 n) ^^^ more 0#32 (b.extract 0 n) ^^^ more 0#32 (c.extract 0 n) := by
  unfold more
  have sa : (a.extract 0 n).size = n := by rw [ByteArray.size_extract]; omega
  have sb : (b.extract 0 n).size = n := by rw [ByteArray.size_extract]; omega
  have sc : (c.extract 0 n).size = n := by rw [ByteArray.size_extract]; omega
  have sd : (strOfNums (dvs a b c n)).size = n := by rw [strOfNums_size, dvs_length]
  rw [sa, sb, sc, sd]
  have q : ~~~ 0#32 = ~~~ 0#32 ^^^ ~~~ 0#32 ^^^ ~~~ (0#32 : BitVec 32) := by decide
  have R : run (bAt (strOfNums (dvs a b c n))) n (~~~ 0#32) = run (bAt (a.extract 0 n)) n (~~~ 0#32) ^^^ run (bAt (b.extract 0 n)) n (~~~ 0#32) ^^^ run (bAt (c.extract 0 n)) n (~~~ 0#32) := by
    rw [← run_xor, ← run_xor, ← q]
    apply run_same
    intro i hi
    rw [bAt_str (dvs a b c n) i (by rw [dvs_length]; exact hi) (dv a b c i) (dv_lt a b c i) (by simp [dvs]), bAt_extract a n i ha hi, bAt_extract b n i hb hi, bAt_extract c n i hc hi]
    unfold dv
    rw [ofNat_xor, ofNat_xor]
  rw [R]
  generalize run (bAt (a.extract 0 n)) n (~~~ 0#32) = x
  generalize run (bAt (b.extract 0 n)) n (~~~ 0#32) = y
  generalize run (bAt (c.extract 0 n)) n (~~~ 0#32) = z
  rw [← BitVec.allOnes_xor (x := x ^^^ y ^^^ z), ← BitVec.allOnes_xor (x := x), ← BitVec.allOnes_xor (x := y), ← BitVec.allOnes_xor (x := z)]
  have h : ∀ o : BitVec 32, o ^^^ (x ^^^ y ^^^ z) = o ^^^ x ^^^ (o ^^^ y) ^^^ (o ^^^ z) := by
    intro o
    have : o ^^^ x ^^^ (o ^^^ y) ^^^ (o ^^^ z) = (o ^^^ o) ^^^ (o ^^^ (x ^^^ y ^^^ z)) := by ac_rfl
    rw [this, BitVec.xor_self, BitVec.zero_xor]
  exact h _
set_option maxHeartbeats 2000000 in
theorem walk (a0 : ByteArray) (a1 : ByteArray) (a2 : ByteArray) (w0 : a0.size ≤ maxLen) (w1 : a1.size ≤ maxLen) (w2 : a2.size ≤ maxLen) (w : World) :
    Calls Try.prog 3 #[.string a0, .string a1, .string a2] w fun e w' => e = .returned (.bool true) ∧ Grown w w' := by
  unfold maxLen at w0 w1 w2
  obtain ⟨n, hn⟩ : ∃ n : Nat, n = min (min (min a0.size a1.size) a2.size) 65536 := ⟨_, rfl⟩
  have hmin := fun ts t w => run_min4 ts t a0.size a1.size a2.size 65536 n w (by omega)
  have n0 : n ≤ a0.size := by omega
  have n1 : n ≤ a1.size := by omega
  have n2 : n ≤ a2.size := by omega
  have n3 : n ≤ 65536 := by omega
  clear hn
  have hmk := run_make_row' (P := Try.prog) 22 5 (.int .u8 0) 1 Try.underlying22 (by kernel_rfl) rfl .i64 .i64 n (by omega) (by omega) w
  go_enter Try.func3, Try.ntmps3
  go_wp2_with fail
  go_loopw [21] (fun i wr => ∃ k : Nat, k ≤ n ∧ i = .int .i64 k ∧ Cells a0 a1 a2 n w.heap.size k wr ∧ Grown w wr) (fun i _ => n - (intOf i).toNat)
  case atStart => exact ⟨0, by omega, rfl, cells_start a0 a1 a2 n w, (Grown.refl _).alloc _ _⟩
  case round =>
    obtain ⟨k, hk, rfl, hc, hg⟩ := hrel
    by_cases hlt : k < n
    · have hlt' : (k : Int) < (n : Int) := by omega
      have l0 : k < a0.size := by omega
      have l1 : k < a1.size := by omega
      have l2 : k < a2.size := by omega
      have i0 : (k : Int) < (a0.size : Int) := by omega
      have i1 : (k : Int) < (a1.size : Int) := by omega
      have i2 : (k : Int) < (a2.size : Int) := by omega
      have hc1 := (hc k hlt).1
      have hf1 := (hc k hlt).2
      rw [if_neg (by omega)] at hc1
      have R := cells_step hc hlt
      rw [← dv_code a0 a1 a2 k l0 l1 l2] at R
      have G := hg.setCell (a := ⟨w.heap.size, k, none⟩) (Nat.le_refl _) (.int .u8 (bits .xor .u8 (bits .xor .u8 ((a0[k]'l0).toNat : Int) ((a1[k]'l1).toNat : Int)) ((a2[k]'l2).toNat : Int)))
      go_wp2_with fail
      go_region
      all_goals go_wp2_with fail
      all_goals go_roundw
      all_goals first
        | exact ⟨k + 1, by omega, by go_num, R, G⟩
        | (simp [intOf]; omega)
    · have e : k = n := by omega
      subst e
      have hs := cells_string hc
      have E := even a0 a1 a2 k n0 n1 n2
      have z0 : Hid ((a0.extract 0 k).size ≤ maxLen) := by show _ ≤ _; rw [ByteArray.size_extract]; unfold maxLen; omega
      have z1 : Hid ((a1.extract 0 k).size ≤ maxLen) := by show _ ≤ _; rw [ByteArray.size_extract]; unfold maxLen; omega
      have z2 : Hid ((a2.extract 0 k).size ≤ maxLen) := by show _ ≤ _; rw [ByteArray.size_extract]; unfold maxLen; omega
      have z3 : Hid ((strOfNums (dvs a0 a1 a2 k)).size ≤ maxLen) := by show _ ≤ _; rw [strOfNums_size, dvs_length]; unfold maxLen; omega
      have x1 := bxor (more 0#32 (a0.extract 0 k)) (more 0#32 (a1.extract 0 k))
      have x2 := bxor (more 0#32 (a0.extract 0 k) ^^^ more 0#32 (a1.extract 0 k)) (more 0#32 (a2.extract 0 k))
      rw [← E] at x2
      clear E
      go_wp2_with fail
      go_quiet (first | (go_at_call 4; refine Calls.quiet_of_same (sum_any _ _ ?_); first | exact z0.out | exact z1.out | exact z2.out | exact z3.out) | (go_at_call 5; exact Calls.quiet_of_same (awake_any _)))
      go_wp2_with fail
      go_ret
      exact ⟨rfl, hg⟩

/-! ### THE ROW's STEP: WRITTEN OUT: LEAVE IT -/
set_option maxRecDepth 100000 in
theorem lifted (os : Os) (started : os.Started) (H : Type) (enc : TypeId × Value → H) :
    ReturnsInHanded {} Try.checked os 3 .any (Rows.crcEvenSpec.pre6 enc Try.prog Try.f3 Rows.crcEvenRow.domain false) (Rows.crcEvenSpec.post enc Try.prog Try.f3 false true false false) := by
  refine returnsInHanded_of_change (C := Try.checked) own started (by kernel_rfl) Try.func3
    (ChangeSpec.witness6 (enc := enc) (C := Try.checked) false ⟨#[], #[.string ByteArray.empty, .string ByteArray.empty, .string ByteArray.empty], []⟩ 8 (by kernel_rfl) (by kernel_rfl) (by kernel_rfl) (by kernel_rfl)) ?_
  intro W base args ds gs before hval0 hW hcnd _
  have hval : ∀ (j : Nat) t v, Try.f3.params[j]? = some t → args[j]? = some v → Value.okWide Try.prog W .any base t v := hval0
  have hW' := hW
  obtain ⟨p, q, hA0, hV, rfl, hfz, hnd⟩ := hW
  have hA : DataW.TrodAll enc Try.prog W 0 (fun _ => true) true Try.f3.params.toList args.toList ds p := hA0
  rw [Try.params3] at hA hval
  obtain ⟨v0, vs0, d0, ds0, p0, q0, hargs, rfl, rfl, h0, r0⟩ := trodAll_cons hA
  obtain ⟨v1, vs1, d1, ds1, p1, q1, rfl, rfl, rfl, h1, r1⟩ := trodAll_cons r0
  obtain ⟨v2, vs2, d2, ds2, p2, q2, rfl, rfl, rfl, h2, r2⟩ := trodAll_cons r1
  obtain ⟨rfl, rfl, rfl⟩ := trodAll_nil r2
  obtain rfl : args = #[v0, v1, v2] := by cases args; simp_all
  obtain ⟨rfl, rfl⟩ := trodVars_none hV
  obtain ⟨a0, rfl, rfl, rfl, w0⟩ := open_string Try.underlying9 (hval 0 9 v0 rfl rfl) h0
  obtain ⟨a1, rfl, rfl, rfl, w1⟩ := open_string Try.underlying9 (hval 1 9 v1 rfl rfl) h1
  obtain ⟨a2, rfl, rfl, rfl, w2⟩ := open_string Try.underlying9 (hval 2 9 v2 rfl rfl) h2
  clear hA0 hval0
  simp only [List.append_nil] at hW'
  refine (walk a0 a1 a2 w0 w1 w2 W).mono fun e W' ⟨he, hg⟩ => ?_
  subst he
  exact ⟨_, rfl, post_of_same (pa := []) (pv := []) hW' (fun _ _ _ => (trodAll_cons_mk (shut_bool Try.underlying4 _) trodAll_mk0)) (fun sp _ => (trodAll_cons_mk (shut_string Try.underlying9 w0) (trodAll_cons_mk (shut_string Try.underlying9 w1) (trodAll_cons_mk (shut_string Try.underlying9 w2) trodAll_mk0)))) (fun _ _ => rfl) rfl
    (hg.frame _) hg.2.1 (ok_one (by kernel_rfl) rfl (okWide_bool_mk Try.underlying4 _))⟩

theorem over : Rows.crcEvenRow.holds Try.pinned (OpenSpec.ofChange Rows.crcEvenSpec) :=
  OpenClaim.holds_of_wide 3 Try.f3 rfl rfl rfl rfl rfl rfl rfl ⟨rfl, rfl, rfl, rfl, rfl⟩ rfl rfl rfl rfl rfl (by kernel_rfl) Try.func3 (by kernel_rfl)
    (of_decide_eq_true (by kernel_rfl)) (by unfold Func.isWrapper; first | (rw [if_pos (by decide +kernel)]; kernel_rfl) | (rw [if_neg (by decide +kernel)]; exact ⟨rfl, rfl⟩))
    (fun os started H enc _ => lifted os started H enc)

/-- ████ THE STATEMENT ████ -/
theorem proved : Rows.CrcEvenSaid :=
  over
#print axioms proved
end Go.Proofs.Ytahiahkjglenoac.crcEven
