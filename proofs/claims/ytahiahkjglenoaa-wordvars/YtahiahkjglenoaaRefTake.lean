/-
  Proved here: the document's TakeVar (varveref01) of a text and a place is what the scan of its groups tells.
-/
import Derived.Test.YtahiahkjglenoaaTakePlain
namespace Go.Proofs.Ytahiahkjglenoaa
open Go.ChangeShapes Go.WideShapes Go.ChangeAt Go.RowKit
set_option linter.unusedVariables false
set_option linter.unusedSimpArgs false

theorem rtake_none (s : ByteArray) (a : Int) (w : World) (hs : s.size ≤ maxLen) (h : a < 0 ∨ (s.size : Int) < a) (wa : a ≤ 9223372036854775807) :
    Calls Try.prog 16 #[.string s, .int .i64 a] w fun e w' => e = .returned (.tuple #[.int .u64 0, .int .i64 0, .bool false]) ∧ w' = w := by
  unfold maxLen at hs
  by_cases h1 : a < 0
  · go_enter Try.func16, Try.ntmps16
    go_wp2
    refine wp_loop_rounds 1 ?_
    rw [rounds_succ]
    go_wp2
    go_ret3
    exact ⟨rfl, rfl⟩
  · have h2 : (s.size : Int) < a := by omega
    go_enter Try.func16, Try.ntmps16
    go_wp2
    refine wp_loop_rounds 1 ?_
    rw [rounds_succ]
    go_wp2
    go_ret3
    exact ⟨rfl, rfl⟩

theorem rval_step (s : ByteArray) (a k : Nat) (v p x : Int) (hv : v = val s a k % 18446744073709551616) (hp : p = 2 ^ (7 * k) % 18446744073709551616) (hx : x = byteAt s (a + k) % 128) :
    (v + p * x % 18446744073709551616) % 18446744073709551616 = val s a (k + 1) % 18446744073709551616 ∧ p * 128 % 18446744073709551616 = 2 ^ (7 * (k + 1)) % 18446744073709551616 := by
  subst hv hp hx
  rw [val, pow7_succ]
  constructor
  · rw [Int.mul_comm (byteAt s (a + k) % 128)]
    simp [Int.add_emod, Int.mul_emod]
  · rw [Int.mul_comm 128]
    simp [Int.mul_emod]

theorem toList_inj {a b : ByteArray} (h : a.toList = b.toList) : a = b := by
  rw [ByteArray.toList_eq, ByteArray.toList_eq] at h; exact bytes_inj h
set_option maxHeartbeats 1000000 in
theorem rtake_any (s : ByteArray) (a : Nat) (w : World) (hs : s.size ≤ maxLen) (ha : a ≤ s.size) :
    Calls Try.prog 16 #[.string s, .int .i64 a] w fun e w' => e = .returned (told (tk s a 10 0)) ∧ Grown w w' := by
  unfold maxLen at hs
  have ha' : ¬ (s.size : Int) < a := by omega
  have ha'' : ¬ s.size < a := by omega
  have hd : decide (s.size < a) = false := by simp; omega
  go_enter Try.func16, Try.ntmps16
  go_wp2
  go_loopw [7] (fun i wr => ∃ k : Nat, k ≤ 10 ∧ i = .int .i64 ((k : Int) + 1) ∧ Hid (St s a k) ∧ Grown w wr) (fun i _ => 12 - (intOf i).toNat)
  case atStart => exact ⟨0, by omega, rfl, st_start s a ha, Grown.refl _⟩
  case round =>
    obtain ⟨k, hk, rfl, HS, hg⟩ := hrel
    by_cases h10 : k = 10
    · subst h10
      have HT : Hid (tk s a 10 0 = none) := st_end s a HS.out
      go_wp2
      go_ret3
      exact ⟨by rw [HT.out]; rfl, hg⟩
    · have h9 : k < 10 := by omega
      have h9' : (k : Int) + 1 ≤ 10 := by omega
      by_cases hsh : s.size < a + (k + 1)
      · have HT : Hid (tk s a 10 0 = none) := st_short s a k h9 HS.out hsh
        have hsh' : (s.size : Int) - (a : Int) < (k : Int) + 1 := by omega
        clear hsh
        go_wp2
        go_ret3
        exact ⟨by rw [HT.out]; rfl, hg⟩
      · have hsh' : ¬ (s.size : Int) - (a : Int) < (k : Int) + 1 := by omega
        go_wp2
        go_loop [8, 9, 10] (fun g p i => ∃ (j : Nat) (v q : Int), j ≤ k + 1 ∧ i = .int .i64 j ∧ g = .int .u64 v ∧ p = .int .u64 q ∧ Hid (v = val s a j % 18446744073709551616) ∧ Hid (q = 2 ^ (7 * j) % 18446744073709551616)) (fun _ _ i => k + 1 - (intOf i).toNat)
        case atStart => exact ⟨0, 0, 1, by omega, rfl, rfl, rfl, rfl, rfl⟩
        case round =>
          obtain ⟨j, v, q, hj, rfl, rfl, rfl, HV, HQ⟩ := hrel
          by_cases hlt : j < k + 1
          · have hlt' : a + j < s.size := by omega
            have hji : (j : Int) < (k : Int) + 1 := by omega
            have hb : ((s[a + j]'hlt').toNat : Int) ≤ 255 := by have := (s[a + j]'hlt').toNat_lt; omega
            have R := rval_step s a j v q ((s[a + j]'hlt').toNat % 128) HV.out HQ.out (by rw [byteAt_in s (a + j) hlt'])
            have HR : Hid (IntKind.u64.wrap (v + IntKind.u64.wrap (q * (((s[a + j]'hlt').toNat : Int) % 128))) = val s a (j + 1) % 18446744073709551616 ∧ IntKind.u64.wrap (q * 128) = 2 ^ (7 * (j + 1)) % 18446744073709551616) := by
              show _ ∧ _
              simp only [IntKind.wrap_u64]; exact R
            clear R
            go_wp2
            go_round
            case rel => exact ⟨j + 1, _, _, by omega, by go_num, rfl, rfl, HR.out.1, HR.out.2⟩
            case measure => simp [intOf]; omega
          · have e : j = k + 1 := by omega
            subst e
            have v0 : 0 ≤ v ∧ v ≤ 18446744073709551615 := by have := HV.out; omega
            obtain ⟨m, hm⟩ : ∃ m : Nat, ng v = (m : Int) + 1 := ⟨(ng v).toNat - 1, by have := ng_bounds v v0.1 v0.2; omega⟩
            have HM : Hid (ng v = (m : Int) + 1) := hm
            clear hm
            have i1 : IntKind.i64.wrap ((a : Int) + ((k : Int) + 1)) = ((a + (k + 1) : Nat) : Int) := by rw [IntKind.wrap_i64]; omega
            have i2 : a + (k + 1) ≤ s.size := by omega
            have i3 : a ≤ a + (k + 1) := by omega
            have HV' := HV.out
            by_cases M : strOfNums (grp v m) = s.extract a (a + (k + 1))
            · have tE : ((strOfNums (grp v m)).toList == (s.extract a (a + (k + 1))).toList) = true := by rw [M]; simp
              have HT : Hid (tk s a 10 0 = some (v, a + k + 1)) := st_match s a k m v h9 HS.out (by omega) HV.out HM.out M
              clear HV' M
              go_wp2
              go_region_with (go_at_call 18; refine (rvar_any m v _ v0.1 v0.2 HM.out).mono ?_; rintro e w1 ⟨rfl, hg1⟩)
              all_goals go_wp2
              all_goals go_ret3
              all_goals exact ⟨told_some HT.out rfl (by omega), grown_trans hg hg1⟩
            · have tE : ((strOfNums (grp v m)).toList == (s.extract a (a + (k + 1))).toList) = false := by
                rw [beq_eq_false_iff_ne]
                intro h
                exact M (toList_inj h)
              have HT : Hid (St s a (k + 1)) := st_next s a k m v h9 HS.out (by omega) HV.out HM.out M
              clear HV' M
              go_wp2
              go_region_with (go_at_call 18; refine (rvar_any m v _ v0.1 v0.2 HM.out).mono ?_; rintro e w1 ⟨rfl, hg1⟩)
              all_goals go_wp2
              all_goals go_roundw
              all_goals first
                | exact ⟨k + 1, by omega, by go_num, HT, grown_trans hg hg1⟩
                | (simp [intOf]; omega)
end Go.Proofs.Ytahiahkjglenoaa
