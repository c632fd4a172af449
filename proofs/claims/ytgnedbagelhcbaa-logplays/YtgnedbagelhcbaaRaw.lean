/-
  Proved here: what was packed is told again; the statements' fixed run (awake).
-/
import Derived.Test.YtgnedbagelhcbaaUnp
namespace Go.Proofs.Ytgnedbagelhcbaa
open Go.ChangeShapes Go.WideShapes Go.ChangeAt Go.RowKit
set_option linter.unusedVariables false
set_option linter.unusedSimpArgs false
set_option maxRecDepth 20000
theorem pack_off (o : Int) (l : List Int) (i : Nat) (hi : i < 8) : (packT o l).getD i 0 = o / 2 ^ (8 * i) % 256 := by
  unfold packT
  rw [List.append_assoc, getD_left (by rw [low_length]; exact hi), low_getD _ _ _ hi]
theorem pack_len (o : Int) (l : List Int) (i : Nat) (hi : i < 2) : (packT o l).getD (8 + i) 0 = (l.length : Int) / 2 ^ (8 * i) % 256 := by
  unfold packT
  rw [List.append_assoc, part_at _ _ _ 8 (low_length _ _) i (by rw [low_length]; exact hi), low_getD _ _ _ hi]
theorem pack_txt (o : Int) (l : List Int) (i : Nat) : (packT o l).getD (10 + i) 0 = l.getD i 0 := by
  unfold packT
  rw [getD_right (by simp [low_length])]
  congr 1
  simp [low_length]
theorem packed (e n o : Int) (l : List Int) (he : 0 ≤ e ∧ e ≤ 4294967295) (hn : 0 ≤ n ∧ n ≤ 4294967295) (ho : 0 ≤ o ∧ o ≤ 18446744073709551615) (hl : 1 ≤ l.length ∧ l.length ≤ 214) (hb : Bytes l) :
    whole (packB e n o l) = true ∧ uE (packB e n o l) = e ∧ uN (packB e n o l) = n ∧ uO (packB e n o l) = o ∧ uL (packB e n o l) = l := by
  have hpl : (padT (packT o l)).length = 224 := padT_length _ (by rw [packT_length]; omega)
  have hpb := padT_bytes _ (packT_bytes o l hb)
  have hv : 0 ≤ e * 4294967296 + n ∧ e * 4294967296 + n ≤ 18446744073709551615 := by omega
  have hs := fun i hi => Sl.stamp_sealed (e * 4294967296 + n) (padT (packT o l)) hv.1 hv.2 i hi
  have hp := Sl.pay_sealed (e * 4294967296 + n) (padT (packT o l)) hpl
  have s0 : Sl.stampAt (packB e n o l) 0 = e * 4294967296 + n := hs 0 (by omega)
  have p0 : Sl.payN (packB e n o l) 4 = padT (packT o l) := hp
  have hat : ∀ j, (padT (packT o l)).getD j 0 = (packT o l).getD j 0 := padT_at _ (by rw [packT_length]; omega)
  have z : uZ (packB e n o l) = l.length := by
    unfold uZ; rw [p0]
    exact getN_tx hpb _ (by omega) 8 2 (by omega) (by omega) fun i hi => by rw [hat, pack_len _ _ _ hi]
  refine ⟨?_, ?_, ?_, ?_, ?_⟩
  · unfold whole
    apply decide_eq_true
    exact ⟨(hs 1 (by omega)).trans (hs 0 (by omega)).symm, (hs 2 (by omega)).trans (hs 0 (by omega)).symm, (hs 3 (by omega)).trans (hs 0 (by omega)).symm⟩
  · unfold uE; rw [s0]; omega
  · unfold uN; rw [s0]; omega
  · unfold uO; rw [p0]
    exact getN_tx hpb _ ho.1 0 8 (by omega) (by omega) fun i hi => by rw [hat, Nat.zero_add, pack_off _ _ _ hi]
  · unfold uL; rw [p0, z, Int.toNat_natCast]
    apply list_ext _ _ l.length (by simp; omega) rfl
    intro i hi
    have := hat (10 + i)
    rw [pack_txt] at this
    rw [← this]
    simp only [List.getD]
    rw [List.getElem?_take, if_pos hi, List.getElem?_drop]
theorem okC_tx (l : List Int) (hl : 1 ≤ l.length ∧ l.length ≤ 214) : okC (strOfNums l) = true := by
  unfold okC; rw [strOfNums_size]; exact decide_eq_true hl
theorem packed_is (e n o : Int) (l : List Int) (he : 0 ≤ e ∧ e ≤ 4294967295) (hn : 0 ≤ n ∧ n ≤ 4294967295) (ho : 0 ≤ o ∧ o ≤ 18446744073709551615) (hl : 1 ≤ l.length ∧ l.length ≤ 214) (hb : Bytes l) :
    isB (packB e n o l) = true ∧ gotC (packB e n o l) = chk e n o (strOfNums l) := by
  obtain ⟨h1, h2, h3, h4, h5⟩ := packed e n o l he hn ho hl hb
  have h : isB (packB e n o l) = true := by
    unfold isB packV
    rw [h1, h2, h3, h4, h5, okC_tx l hl, if_pos rfl, nums_tx hb]
    simp
  refine ⟨h, ?_⟩
  unfold gotC
  rw [h, if_pos rfl, h2, h3, h4, h5]
theorem packB_bytes (e n o : Int) (l : List Int) (hb : Bytes l) : Bytes (packB e n o l) := Sl.sealN_bytes _ _ (padT_bytes _ (packT_bytes _ _ hb))
end Go.Proofs.Ytgnedbagelhcbaa
