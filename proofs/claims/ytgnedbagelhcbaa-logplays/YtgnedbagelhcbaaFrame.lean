/-
  Proved here: ring.Frame and the document's (varveref10): a text with its length and sum ahead, or nothing.
-/
import Derived.Test.YtgnedbagelhcbaaRaw
namespace Go.Proofs.Ytgnedbagelhcbaa
open Go.ChangeShapes Go.WideShapes Go.ChangeAt Go.RowKit
set_option linter.unusedVariables false
set_option linter.unusedSimpArgs false
set_option maxRecDepth 20000
def frT (s : ByteArray) : List Int := low s.size 2 ++ low (u (more 0#32 s)) 4 ++ nums s
def okF (s : ByteArray) : Bool := decide (1 ≤ s.size ∧ s.size ≤ 400)
def frS (s : ByteArray) : ByteArray := if okF s then strOfNums (frT s) else { data := #[] }
theorem frT_length (s : ByteArray) : (frT s).length = 6 + s.size := by simp [frT, low_length, nums_length]; omega
theorem frT_bytes (s : ByteArray) : Bytes (frT s) := ((low_bytes _ _).append (low_bytes _ _)).append (nums_bytes _)
set_option maxRecDepth 20000 in
set_option maxHeartbeats 2000000 in
theorem frame_any (s : ByteArray) (w : World) (hs : s.size ≤ maxLen) :
    Calls Try.prog 41 #[.string s] w fun ex w' => ex = .returned (.string (frS s)) ∧ Below w.heap.size w w' := by
  have HSM : Hid _ := fun w => sum_any s w hs
  have fs := u_fits (more 0#32 s)
  unfold maxLen at hs
  by_cases hok : okF s = true
  · have hok' := hok
    unfold okF at hok'
    simp only [decide_eq_true_eq] at hok'
    have HV : Hid (frS s = strOfNums (frT s)) := by show _ = _; unfold frS; rw [hok]; rfl
    obtain ⟨h1, h1'⟩ := str_ne s hok'.1
    have h2 : ¬ (s.size : Int) > 400 := by omega
    have h400 : s.size ≤ 400 := hok'.2
    have HT : Hid (frT s = low s.size 2 ++ low (u (more 0#32 s)) 4 ++ nums s) := rfl
    obtain ⟨sm, HS⟩ : ∃ x, Hid (u (more 0#32 s) = x) := ⟨_, rfl⟩
    rw [HS.out] at HSM fs HT
    obtain ⟨A1, HA1⟩ : ∃ A, Hid (low s.size 2 = A) := ⟨_, rfl⟩
    obtain ⟨A2, HA2⟩ : ∃ A, Hid (low sm 4 = A) := ⟨_, rfl⟩
    obtain ⟨A3, HA3⟩ : ∃ A, Hid (A1 ++ A2 = A) := ⟨_, rfl⟩
    obtain ⟨T, HTT⟩ : ∃ A, Hid (frT s = A) := ⟨_, rfl⟩
    have P1 : Hid _ := put_at s.size 2 A1 HA1.out (by omega) (by omega) (by decide)
    have P2 : Hid _ := put_at sm 4 A2 HA2.out (by omega) (by omega) (by decide)
    have z1 : (strOfNums A1).size = 2 := by rw [strOfNums_size, ← HA1.out, low_length]
    have z2 : (strOfNums A2).size = 4 := by rw [strOfNums_size, ← HA2.out, low_length]
    have t1 : strOfNums A1 ++ strOfNums A2 = strOfNums A3 := by rw [tx_app, HA3.out]
    have z3 : (strOfNums A3).size = 6 := by rw [← t1, ByteArray.size_append, z1, z2]
    have t2 : strOfNums A3 ++ s = strOfNums T := by
      conv => lhs; rw [← tx_nums s]
      rw [tx_app, ← HA3.out, ← HA1.out, ← HA2.out, ← HTT.out, HT.out]
    have ew : IntKind.u64.wrap (s.size : Int) = s.size := by rw [IntKind.wrap_u64]; omega
    have ew2 : IntKind.u64.wrap sm = sm := by rw [IntKind.wrap_u64]; omega
    rw [HV.out, HTT.out]
    clear hok hok' hs
    go_enter Try.func41, Try.ntmps41
    go_wp2_with (first
      | (go_at_call 68; refine (P1.out _).mono ?_; clear P1; rintro ex w1 ⟨rfl, b1⟩)
      | (go_at_call 69; refine (HSM.out _).mono ?_; clear HSM; rintro ex w2 ⟨rfl, rfl⟩)
      | (go_at_call 68; refine (P2.out _).mono ?_; clear P2; rintro ex w3 ⟨rfl, b3⟩))
    go_ret
    exact ⟨rfl, b1.trans (b3.mono b1.size)⟩
  · have HV : Hid (frS s = { data := #[] }) := by show _ = _; unfold frS; rw [if_neg hok]
    rw [HV.out]
    by_cases h0 : s.size = 0
    · obtain rfl := str_empty s h0
      clear h0 hok hs HSM fs HV
      go_enter Try.func41, Try.ntmps41
      go_wp2
      go_ret
      exact ⟨rfl, Below.refl _ _⟩
    · obtain ⟨h1, h1'⟩ := str_ne s (by omega)
      have h2 : (s.size : Int) > 400 := by
        unfold okF at hok
        simp at hok
        have := hok (by omega)
        omega
      clear h0 hok HSM fs HV
      go_enter Try.func41, Try.ntmps41
      go_wp2
      go_ret
      exact ⟨rfl, Below.refl _ _⟩
set_option maxRecDepth 20000 in
set_option maxHeartbeats 2000000 in
theorem rframe_any (s : ByteArray) (w : World) (hs : s.size ≤ maxLen) :
    Calls Try.prog 47 #[.string s] w fun ex w' => ex = .returned (.string (frS s)) ∧ Below w.heap.size w w' := by
  have HSM : Hid _ := fun w => rsum_any s w hs
  have fs := u_fits (more 0#32 s)
  unfold maxLen at hs
  by_cases hok : okF s = true
  · have hok' := hok
    unfold okF at hok'
    simp only [decide_eq_true_eq] at hok'
    have HV : Hid (frS s = strOfNums (frT s)) := by show _ = _; unfold frS; rw [hok]; rfl
    obtain ⟨h1, h1'⟩ := str_ne s hok'.1
    have h2 : ¬ (s.size : Int) > 400 := by omega
    have h400 : s.size ≤ 400 := hok'.2
    have HT : Hid (frT s = low s.size 2 ++ low (u (more 0#32 s)) 4 ++ nums s) := rfl
    obtain ⟨sm, HS⟩ : ∃ x, Hid (u (more 0#32 s) = x) := ⟨_, rfl⟩
    rw [HS.out] at HSM fs HT
    obtain ⟨A1, HA1⟩ : ∃ A, Hid (low s.size 2 = A) := ⟨_, rfl⟩
    obtain ⟨A2, HA2⟩ : ∃ A, Hid (low sm 4 = A) := ⟨_, rfl⟩
    obtain ⟨A3, HA3⟩ : ∃ A, Hid (A1 ++ A2 = A) := ⟨_, rfl⟩
    obtain ⟨T, HTT⟩ : ∃ A, Hid (frT s = A) := ⟨_, rfl⟩
    have P1 : Hid _ := rput_at s.size 2 A1 HA1.out (by omega) (by omega) (by decide)
    have P2 : Hid _ := rput_at sm 4 A2 HA2.out (by omega) (by omega) (by decide)
    have z1 : (strOfNums A1).size = 2 := by rw [strOfNums_size, ← HA1.out, low_length]
    have z2 : (strOfNums A2).size = 4 := by rw [strOfNums_size, ← HA2.out, low_length]
    have t1 : strOfNums A1 ++ strOfNums A2 = strOfNums A3 := by rw [tx_app, HA3.out]
    have z3 : (strOfNums A3).size = 6 := by rw [← t1, ByteArray.size_append, z1, z2]
    have t2 : strOfNums A3 ++ s = strOfNums T := by
      conv => lhs; rw [← tx_nums s]
      rw [tx_app, ← HA3.out, ← HA1.out, ← HA2.out, ← HTT.out, HT.out]
    have ew : IntKind.u64.wrap (s.size : Int) = s.size := by rw [IntKind.wrap_u64]; omega
    have ew2 : IntKind.u64.wrap sm = sm := by rw [IntKind.wrap_u64]; omega
    rw [HV.out, HTT.out]
    clear hok hok' hs
    go_enter Try.func47, Try.ntmps47
    go_wp2_with (first
      | (go_at_call 71; refine (P1.out _).mono ?_; clear P1; rintro ex w1 ⟨rfl, b1⟩)
      | (go_at_call 72; refine (HSM.out _).mono ?_; clear HSM; rintro ex w2 ⟨rfl, rfl⟩)
      | (go_at_call 71; refine (P2.out _).mono ?_; clear P2; rintro ex w3 ⟨rfl, b3⟩))
    go_ret
    exact ⟨rfl, b1.trans (b3.mono b1.size)⟩
  · have HV : Hid (frS s = { data := #[] }) := by show _ = _; unfold frS; rw [if_neg hok]
    rw [HV.out]
    by_cases h0 : s.size = 0
    · obtain rfl := str_empty s h0
      clear h0 hok hs HSM fs HV
      go_enter Try.func47, Try.ntmps47
      go_wp2
      go_ret
      exact ⟨rfl, Below.refl _ _⟩
    · obtain ⟨h1, h1'⟩ := str_ne s (by omega)
      have h2 : (s.size : Int) > 400 := by
        unfold okF at hok
        simp at hok
        have := hok (by omega)
        omega
      clear h0 hok HSM fs HV
      go_enter Try.func47, Try.ntmps47
      go_wp2
      go_ret
      exact ⟨rfl, Below.refl _ _⟩
end Go.Proofs.Ytgnedbagelhcbaa
