/-
  Proved: for every uint64 v, every int n and all texts a and b the Go function varvelaw01.WordBack returns true and leaves its arguments as they were; no condition.
-/
import Derived.Test.YtahiahkjglenoaaRows
import Derived.WalkKit
import Derived.ProofKit
import Derived.OpenShut
import Derived.ShutString
import Derived.Test.YtahiahkjglenoaaAwake
import Derived.Test.YtahiahkjglenoaaTakePlain
namespace Go.Proofs.Ytahiahkjglenoaa.wordBack
open Go.ChangeShapes Go.WideShapes Go.ChangeAt Go.RowKit
open Go.ChangeMaps (open_string shut_string)
set_option linter.unusedVariables false
set_option linter.unusedSimpArgs false

theorem own : ownKnob Try.prog.godebug = none := by kernel_rfl

theorem byteAt_mid (a b : ByteArray) (l : List Int) (j : Nat) (x : Int) (h : l[j]? = some x) (hx : 0 ≤ x ∧ x ≤ 255) : byteAt (a ++ strOfNums l ++ b) (a.size + j) = x := by
  have hj : j < l.length := by
    rcases Nat.lt_or_ge j l.length with q | q
    · exact q
    · rw [List.getElem?_eq_none q] at h; cases h
  have hz : (a ++ strOfNums l ++ b).size = a.size + l.length + b.size := by simp [ByteArray.size_append, strOfNums_size]
  have hs : a.size + j < (a ++ strOfNums l ++ b).size := by omega
  rw [byteAt_in _ _ hs]
  rw [ByteArray.getElem_append_left (by rw [ByteArray.size_append, strOfNums_size]; omega), ByteArray.getElem_append_right (by omega)]
  have hl : l[j] = x := by rw [List.getElem?_eq_getElem hj] at h; injection h
  simp only [Nat.add_sub_cancel_left]
  show (((strOfNums l).data[j]'(by simpa [strOfNums] using hj)).toNat : Int) = x
  simp only [strOfNums, List.getElem_toArray, List.getElem_map, hl, UInt8.toNat_ofNat']
  omega

theorem val_grp (s : ByteArray) (m : Nat) : ∀ (a : Nat) (v : Int), 0 ≤ v → v < 2 ^ (7 * (m + 1)) → (∀ j, j < m → byteAt s (a + j) = gmore v j) → byteAt s (a + m) = glast v m → val s a (m + 1) = v := by
  induction m with
  | zero =>
    intro a v h0 h1 _ h
    rw [Nat.add_zero] at h
    have e : val s a 1 = byteAt s a % 128 := by simp [val]
    have h1' : v < 128 := by simpa using h1
    have e2 : glast v 0 = v % 128 := by simp [glast]
    rw [e, h, e2]; omega
  | succ m ih =>
    intro a v h0 h1 hj h
    rw [val_cons]
    have h00 := hj 0 (by omega)
    rw [Nat.add_zero] at h00
    have e : gmore v 0 = 128 + v % 128 := by simp [gmore]
    rw [pow7_succ] at h1
    have ih := ih (a + 1) (v / 128) (by omega) (by omega) (fun j hl => by
      have := hj (j + 1) (by omega)
      rw [show a + 1 + j = a + (j + 1) by omega, this]
      unfold gmore; rw [div7]) (by
      rw [show a + 1 + m = a + (m + 1) by omega, h]
      unfold glast; rw [div7])
    rw [ih, h00, e]
    omega
theorem tk_grp (s : ByteArray) (a m : Nat) (v : Int) (h0 : 0 ≤ v) (h1 : v ≤ 18446744073709551615) (hm : ng v = (m : Int) + 1)
    (hj : ∀ j, j < m → byteAt s (a + j) = gmore v j) (hl : byteAt s (a + m) = glast v m) (hs : a + m + 1 ≤ s.size) : tk s a 10 0 = some (v, a + m + 1) := by
  have hm9 : m ≤ 9 := by have := ng_bounds v h0 h1; omega
  have go : ∀ k, k ≤ m → tk s a (10 - k) k = tk s a 10 0 := by
    intro k
    induction k with
    | zero => intro _; rfl
    | succ k ih =>
      intro hk
      rw [← ih (by omega), show 10 - k = 9 - k + 1 by omega, (tk_step s a (9 - k) k _ rfl (by omega)).2.1 (by omega) (by rw [hj k (by omega)]; unfold gmore; omega), show 10 - (k + 1) = 9 - k by omega]
  have top := glast_top v m h0 h1 hm
  have T := (tk_step s a (9 - m) m _ rfl (by omega)).2.2.2 (fun e => by rw [hl]; exact top.2 e) (by rw [hl]; unfold glast; omega) (fun z => by
      rcases Nat.eq_zero_or_pos m with q | q
      · exact q
      · rw [hl] at z; exact absurd z (top.1 q))
  rw [← go m (Nat.le_refl _), show 10 - m = 9 - m + 1 by omega, T, val_grp s m a v h0 (ng_lower m v h0 h1 hm).2 hj hl]
theorem grp_at (v : Int) (m j : Nat) (h : j < m) : (grp v m)[j]? = some (gmore v j) := by simp [grp, List.getElem?_append, h]
theorem grp_at_last (v : Int) (m : Nat) : (grp v m)[m]? = some (glast v m) := by simp [grp, List.getElem?_append]
theorem take_back (v : Int) (m : Nat) (a b : ByteArray) (w : World) (h0 : 0 ≤ v) (h1 : v ≤ 18446744073709551615) (hm : ng v = (m : Int) + 1) (ha : a.size ≤ 65536) (hb : b.size ≤ 65536) :
    Calls Try.prog 15 #[.string (a ++ strOfNums (grp v m) ++ b), .int .i64 a.size] w fun e w' => e = .returned (.tuple #[.int .u64 v, .int .i64 ((a.size : Int) + ((m : Int) + 1)), .bool true]) ∧ w' = w := by
  have hz : (a ++ strOfNums (grp v m) ++ b).size = a.size + (m + 1) + b.size := by simp [ByteArray.size_append, strOfNums_size, grp_length]
  have hm9 : m ≤ 9 := by have := ng_bounds v h0 h1; omega
  have T := tk_grp (a ++ strOfNums (grp v m) ++ b) a.size m v h0 h1 hm
    (fun j hj => byteAt_mid a b _ j _ (grp_at v m j hj) (by unfold gmore; omega)) (byteAt_mid a b _ m _ (grp_at_last v m) (by unfold glast; omega)) (by omega)
  have h := take_any (a ++ strOfNums (grp v m) ++ b) a.size w (by unfold maxLen; omega) (by omega)
  rw [T] at h
  refine h.mono ?_
  rintro e w' ⟨rfl, rfl⟩
  refine ⟨?_, rfl⟩
  show Ending.returned (.tuple #[.int .u64 v, .int .i64 ((a.size + m + 1 : Nat) : Int), .bool true]) = _
  rw [show ((a.size + m + 1 : Nat) : Int) = (a.size : Int) + ((m : Int) + 1) by omega]

theorem emod_split (v : Int) (p : Int) (hp : 0 < p) : v % (p * 256) = v % p + v / p % 256 * p := by
  have e1 := Int.mul_ediv_add_emod v p
  have e2 := Int.mul_ediv_add_emod (v / p) 256
  have r1 := Int.emod_nonneg v (show p ≠ 0 by omega)
  have r2 := Int.emod_lt_of_pos v hp
  have r3 : 0 ≤ v / p % 256 := by omega
  have r4 : v / p % 256 ≤ 255 := by omega
  have m1 : 0 ≤ v / p % 256 * p := Int.mul_nonneg r3 (Int.le_of_lt hp)
  have m2 : v / p % 256 * p ≤ 255 * p := Int.mul_le_mul_of_nonneg_right r4 (Int.le_of_lt hp)
  have e3 : v = (v % p + v / p % 256 * p) + p * 256 * (v / p / 256) := by
    have : p * (v / p) = p * 256 * (v / p / 256) + v / p % 256 * p := by
      rw [Int.mul_assoc, Int.mul_comm (v / p % 256) p, ← Int.mul_add, e2]
    omega
  have e4 : v % (p * 256) = (v % p + v / p % 256 * p) % (p * 256) := by
    have h := Int.add_mul_emod_self_left (v % p + v / p % 256 * p) (p * 256) (v / p / 256)
    rw [← e3] at h
    exact h
  rw [e4]
  exact Int.emod_eq_of_lt (by omega) (by omega)
theorem num_low (s : ByteArray) (a : Nat) (v : Int) : ∀ n, (∀ j, j < n → byteAt s (a + j) = v / 2 ^ (8 * j) % 256) → num s a n = v % 2 ^ (8 * n)
  | 0, _ => by simp [num]
  | n + 1, h => by
    rw [num, num_low s a v n (fun j hj => h j (by omega)), h n (by omega), pow8_succ, emod_split v _ (Int.pow_pos (by decide))]
theorem wid_bound : ∀ (n : Nat) (v : Int), 0 ≤ v → v ≤ 18446744073709551615 → wid v ≤ n → v < 2 ^ (8 * n)
  | 0, v, h0, h1, h => by
    rcases Int.lt_or_le 0 v with q | q
    · have := wid_step v q h1
      have := wid_le (v / 256) (by omega) (by omega)
      omega
    · simp; omega
  | n + 1, v, h0, h1, h => by
    rw [pow8_succ]
    have hp : (0 : Int) < 2 ^ (8 * n) := Int.pow_pos (by decide)
    rcases Int.lt_or_le 0 v with q | q
    · have s := wid_step v q h1
      have := wid_bound n (v / 256) (by omega) (by omega) (by omega)
      omega
    · omega
theorem low_at (v : Int) (n j : Nat) (h : j < n) : (low v n)[j]? = some (v / 2 ^ (8 * j) % 256) := by simp [low, h]
theorem get_back (v : Int) (n : Nat) (a b : ByteArray) (w : World) (h0 : 0 ≤ v) (h1 : v ≤ 18446744073709551615) (hw : wid v ≤ n) (hn : n ≤ 8) (ha : a.size ≤ 65536) (hb : b.size ≤ 65536) :
    Calls Try.prog 13 #[.string (a ++ strOfNums (low v n) ++ b), .int .i64 a.size, .int .i64 n] w fun e w' => e = .returned (.tuple #[.int .u64 v, .bool true]) ∧ w' = w := by
  have hz : (a ++ strOfNums (low v n) ++ b).size = a.size + n + b.size := by simp [ByteArray.size_append, strOfNums_size, low_length]
  have h := get_any (a ++ strOfNums (low v n) ++ b) a.size n w (by unfold maxLen; omega) hn (by omega)
  rw [num_low _ _ v n (fun j hj => byteAt_mid a b _ j _ (low_at v n j hj) (by omega)), Int.emod_eq_of_lt h0 (wid_bound n v h0 h1 hw)] at h
  exact h

set_option maxHeartbeats 2000000 in
theorem walk (a0 : Int) (a1 : Int) (a2 : ByteArray) (a3 : ByteArray) (w0 : (Lit.int .u64 a0).wf = true) (w1 : (Lit.int .i64 a1).wf = true) (w2 : a2.size ≤ maxLen) (w3 : a3.size ≤ maxLen) (w : World) :
    Calls Try.prog 6 #[.int .u64 a0, .int .i64 a1, .string a2, .string a3] w fun e w' => e = .returned (.bool true) ∧ Grown w w' := by
  have b0 := bounds_u64 w0
  unfold maxLen at w2 w3
  clear w0 w1
  by_cases h1 : (65536 : Int) < (a2.size : Int)
  · go_enter Try.func6, Try.ntmps6
    go_wp2_with (go_at_call 19; refine (awake_any _).mono ?_; rintro e wa ⟨rfl, ha⟩)
    go_ret
    exact ⟨rfl, ha⟩
  · by_cases h2 : (65536 : Int) < (a3.size : Int)
    · go_enter Try.func6, Try.ntmps6
      go_wp2_with (go_at_call 19; refine (awake_any _).mono ?_; rintro e wa ⟨rfl, ha⟩)
      go_ret
      exact ⟨rfl, ha⟩
    · obtain ⟨m, hm⟩ : ∃ m : Nat, ng a0 = (m : Int) + 1 := ⟨(ng a0).toNat - 1, by have := ng_bounds a0 b0.1 b0.2; omega⟩
      have m9 : m ≤ 9 := by have := ng_bounds a0 b0.1 b0.2; omega
      have HM : Hid (ng a0 = (m : Int) + 1) := hm
      have H0 : Hid (0 ≤ a0 ∧ a0 ≤ 18446744073709551615) := b0
      have s2 : a2.size ≤ 65536 := by omega
      have s3 : a3.size ≤ 65536 := by omega
      have HW := wid_le a0 b0.1 b0.2
      have z1 : (strOfNums (grp a0 m)).size = m + 1 := by rw [strOfNums_size, grp_length]
      clear hm b0 w2 w3
      by_cases h3 : a1 < wid a0
      · go_enter Try.func6, Try.ntmps6
        go_wp2_with (first
          | (go_at_call 19; refine (awake_any _).mono ?_; rintro e wa ⟨rfl, ha⟩)
          | (go_at_call 17; refine (var_any _ m _ H0.out.1 H0.out.2 HM.out).mono ?_; rintro e wb ⟨rfl, hb⟩)
          | (go_at_call 15; refine (take_back _ m _ _ _ H0.out.1 H0.out.2 HM.out s2 s3).mono ?_; rintro e wc ⟨rfl, rfl⟩)
          | (go_at_call 11; refine (width_any _ _ H0.out.1 H0.out.2).mono ?_; rintro e wd ⟨rfl, rfl⟩))
        go_ret
        exact ⟨rfl, grown_trans hb ha⟩
      · by_cases h4 : 8 < a1
        · go_enter Try.func6, Try.ntmps6
          go_wp2_with (first
            | (go_at_call 19; refine (awake_any _).mono ?_; rintro e wa ⟨rfl, ha⟩)
            | (go_at_call 17; refine (var_any _ m _ H0.out.1 H0.out.2 HM.out).mono ?_; rintro e wb ⟨rfl, hb⟩)
            | (go_at_call 15; refine (take_back _ m _ _ _ H0.out.1 H0.out.2 HM.out s2 s3).mono ?_; rintro e wc ⟨rfl, rfl⟩)
            | (go_at_call 11; refine (width_any _ _ H0.out.1 H0.out.2).mono ?_; rintro e wd ⟨rfl, rfl⟩))
          go_ret
          exact ⟨rfl, grown_trans hb ha⟩
        · obtain ⟨n, rfl⟩ := Int.eq_ofNat_of_zero_le (show 0 ≤ a1 by omega)
          have n8 : n ≤ 8 := by omega
          have HN : Hid (wid a0 ≤ n) := by show wid a0 ≤ n; omega
          have z2 : (strOfNums (low a0 n)).size = n := by rw [strOfNums_size, low_length]
          go_enter Try.func6, Try.ntmps6
          go_wp2_with (first
            | (go_at_call 17; refine (var_any _ m _ H0.out.1 H0.out.2 HM.out).mono ?_; rintro e wb ⟨rfl, hb⟩)
            | (go_at_call 15; refine (take_back _ m _ _ _ H0.out.1 H0.out.2 HM.out s2 s3).mono ?_; rintro e wc ⟨rfl, rfl⟩)
            | (go_at_call 11; refine (width_any _ _ H0.out.1 H0.out.2).mono ?_; rintro e wd ⟨rfl, rfl⟩)
            | (go_at_call 9; refine (put_any _ n _ H0.out.1 H0.out.2 n8).mono ?_; rintro e we ⟨rfl, he⟩)
            | (go_at_call 13; refine (get_back _ n _ _ _ H0.out.1 H0.out.2 HN.out n8 s2 s3).mono ?_; rintro e wf ⟨rfl, rfl⟩))
          go_ret
          exact ⟨rfl, grown_trans hb he⟩

/-! ### THE ROW's STEP: WRITTEN OUT: LEAVE IT -/
set_option maxRecDepth 100000 in
theorem lifted (os : Os) (started : os.Started) (H : Type) (enc : TypeId × Value → H) :
    ReturnsInHanded {} Try.checked os 6 .any (Rows.wordBackSpec.pre6 enc Try.prog Try.f6 Rows.wordBackRow.domain false) (Rows.wordBackSpec.post enc Try.prog Try.f6 false true false false) := by
  refine returnsInHanded_of_change (C := Try.checked) own started (by kernel_rfl) Try.func6
    (ChangeSpec.witness6 (enc := enc) (C := Try.checked) false ⟨#[], #[.int .u64 0, .int .i64 0, .string ByteArray.empty, .string ByteArray.empty], []⟩ 8 (by kernel_rfl) (by kernel_rfl) (by kernel_rfl) (by kernel_rfl)) ?_
  intro W base args ds gs before hval0 hW hcnd _
  have hval : ∀ (j : Nat) t v, Try.f6.params[j]? = some t → args[j]? = some v → Value.okWide Try.prog W .any base t v := hval0
  have hW' := hW
  obtain ⟨p, q, hA0, hV, rfl, hfz, hnd⟩ := hW
  have hA : DataW.TrodAll enc Try.prog W 0 (fun _ => true) true Try.f6.params.toList args.toList ds p := hA0
  rw [Try.params6] at hA hval
  obtain ⟨v0, vs0, d0, ds0, p0, q0, hargs, rfl, rfl, h0, r0⟩ := trodAll_cons hA
  obtain ⟨v1, vs1, d1, ds1, p1, q1, rfl, rfl, rfl, h1, r1⟩ := trodAll_cons r0
  obtain ⟨v2, vs2, d2, ds2, p2, q2, rfl, rfl, rfl, h2, r2⟩ := trodAll_cons r1
  obtain ⟨v3, vs3, d3, ds3, p3, q3, rfl, rfl, rfl, h3, r3⟩ := trodAll_cons r2
  obtain ⟨rfl, rfl, rfl⟩ := trodAll_nil r3
  obtain rfl : args = #[v0, v1, v2, v3] := by cases args; simp_all
  obtain ⟨rfl, rfl⟩ := trodVars_none hV
  obtain ⟨a0, rfl, rfl, rfl, w0⟩ := open_int Try.underlying22 (hval 0 22 v0 rfl rfl) h0
  obtain ⟨a1, rfl, rfl, rfl, w1⟩ := open_int Try.underlying3 (hval 1 3 v1 rfl rfl) h1
  obtain ⟨a2, rfl, rfl, rfl, w2⟩ := open_string Try.underlying9 (hval 2 9 v2 rfl rfl) h2
  obtain ⟨a3, rfl, rfl, rfl, w3⟩ := open_string Try.underlying9 (hval 3 9 v3 rfl rfl) h3
  clear hA0 hval0
  simp only [List.append_nil] at hW'
  refine (walk a0 a1 a2 a3 w0 w1 w2 w3 W).mono fun e W' ⟨he, hg⟩ => ?_
  subst he
  exact ⟨_, rfl, post_of_same (pa := []) (pv := []) hW' (fun _ _ _ => (trodAll_cons_mk (shut_bool Try.underlying4 _) trodAll_mk0)) (fun sp _ => (trodAll_cons_mk (shut_int Try.underlying22 w0) (trodAll_cons_mk (shut_int Try.underlying3 w1) (trodAll_cons_mk (shut_string Try.underlying9 w2) (trodAll_cons_mk (shut_string Try.underlying9 w3) trodAll_mk0))))) (fun _ _ => rfl) rfl
    (hg.frame _) hg.2.1 (ok_one (by kernel_rfl) rfl (okWide_bool_mk Try.underlying4 _))⟩

theorem over : Rows.wordBackRow.holds Try.pinned (OpenSpec.ofChange Rows.wordBackSpec) :=
  OpenClaim.holds_of_wide 6 Try.f6 rfl rfl rfl rfl rfl rfl rfl ⟨rfl, rfl, rfl, rfl, rfl⟩ rfl rfl rfl rfl rfl (by kernel_rfl) Try.func6 (by kernel_rfl)
    (of_decide_eq_true (by kernel_rfl)) (by unfold Func.isWrapper; first | (rw [if_pos (by decide +kernel)]; kernel_rfl) | (rw [if_neg (by decide +kernel)]; exact ⟨rfl, rfl⟩))
    (fun os started H enc _ => lifted os started H enc)

/-- ████ THE STATEMENT ████ -/
theorem proved : Rows.WordBackSaid :=
  over
#print axioms proved
end Go.Proofs.Ytahiahkjglenoaa.wordBack
