/-
  Proved here: which pages the document's Pages tells.
-/
import Derived.Test.YtmnbfcmamhinbabWrc
namespace Go.Proofs.Ytmnbfcmamhinbab.Ws
open Go.ChangeShapes Go.WideShapes Go.ChangeAt Go.RowKit
open Go.Deep Go.Maps
set_option linter.unusedVariables false
set_option linter.unusedSimpArgs false
set_option maxRecDepth 20000

theorem below_succ {PL : List Int} (hr : PL.Pairwise (· < ·)) (q : Nat) : PL.filter (fun p => decide (p < ((q + 1 : Nat) : Int))) = PL.filter (fun p => decide (p < (q : Int))) ++ if (q : Int) ∈ PL then [(q : Int)] else [] := by
  have h1 : (PL.filter (fun p => decide (p < (q : Int)))).Pairwise (· < ·) := hr.filter _
  refine Go.Proofs.Ytmnbfcmamhinbab.S2.rising_eq (hr.filter _) ?_ (fun x => ?_)
  · split
    · rw [List.pairwise_append]
      refine ⟨h1, by simp, fun a ha b hb => ?_⟩
      simp at hb; subst hb
      have := (List.mem_filter.1 ha).2
      simpa using this
    · rw [List.append_nil]; exact h1
  · rw [List.mem_append, List.mem_filter, List.mem_filter]
    simp only [decide_eq_true_eq]
    split
    · rename_i hq
      simp only [List.mem_singleton]
      constructor
      · rintro ⟨a, b⟩
        by_cases e : x = (q : Int)
        · exact Or.inr e
        · exact Or.inl ⟨a, by omega⟩
      · rintro (⟨a, b⟩ | e)
        · exact ⟨a, by omega⟩
        · subst e; exact ⟨hq, by omega⟩
    · rename_i hq
      simp only [List.not_mem_nil, or_false]
      constructor
      · rintro ⟨a, b⟩
        refine ⟨a, ?_⟩
        by_cases e : x = (q : Int)
        · subst e; exact absurd a hq
        · omega
      · rintro ⟨a, b⟩; exact ⟨a, by omega⟩
def Paged (w : World) (PL : List Int) (e : Ending) (w' : World) : Prop := ∃ v, e = .returned v ∧ OwnU w' w.heap.size v PL ∧ Below w.heap.size w w'
set_option maxHeartbeats 2000000 in
theorem wpages_any {w : World} {r base : Nat} {v : Value} {os : List Wo} (d : DAt w r base v os) (PL : List Int) (hr : PL.Pairwise (· < ·)) (hm : ∀ p, hasW os p = true ↔ p ∈ PL) (hb : ∀ p ∈ PL, 0 ≤ p ∧ p ≤ 65535) (h4 : PL.length ≤ 4) :
    Calls Try.prog 23 #[.pointer (some ⟨r, 0, none⟩)] w fun e w' => Paged w PL e w' := by
  have HD : Hid _ := d
  have HM : Hid _ := hm
  have HR : Hid _ := hr
  have HBD : Hid _ := hb
  clear d hm hr hb
  go_enter Try.func23, Try.ntmps23
  go_wp2
  go_loopw [3, 4] (fun c e wr => ∃ q : Nat, e = .int .i64 q ∧ q ≤ 65536 ∧ OwnU wr w.heap.size c (PL.filter fun p => decide (p < (q : Int))) ∧ Below w.heap.size w wr) (fun _ e _ => 65536 - (intOf e).toNat)
  case atStart => exact ⟨0, rfl, by omega, by rw [List.filter_eq_nil_iff.2 (fun p hp => by have := HBD.out p hp; simp; omega)]; exact OwnU.empty _ _, Below.refl _ _⟩
  case round =>
    obtain ⟨q, rfl, hq, ow, rb⟩ := hrel
    have hl4 : (PL.filter fun p => decide (p < (q : Int))).length ≤ 4 := Nat.le_trans (List.length_filter_le _ _) h4
    by_cases hq6 : q < 65536
    · have hq6' : (q : Int) < 65536 := by omega
      have hsu := below_succ HR.out q
      have HSU : Hid _ := hsu
      clear hsu
      obtain ⟨FL, HFL⟩ : ∃ FL, Hid ((PL.filter fun p => decide (p < (q : Int))) = FL) := ⟨_, rfl⟩
      rw [HFL.out] at ow hl4 HSU
      obtain ⟨oaF, capF, hvF, _⟩ := ow.form
      subst hvF
      obtain ⟨nf, HNF⟩ : ∃ nf, Hid (FL.length = nf) := ⟨_, rfl⟩
      rw [HNF.out] at ow hl4 ⊢
      have hl5 : (nf : Int) < 5 := by omega
      have w1 : IntKind.u16.wrap (q : Int) = q := by rw [IntKind.wrap_u16]; omega
      have hhs := whas_any (HD.out.below rb) (q : Int)
      by_cases hin : (q : Int) ∈ PL
      · rw [(HM.out _).2 hin] at hhs
        rw [if_pos hin] at HSU
        go_upto_region 6 with (go_at_call 31; refine hhs.mono ?_; clear hhs; rintro e w5 ⟨rfl, hb5⟩)
        have ow5 := ow.keep hb5
        have rb5 := rb.trans (hb5.mono rb.size)
        clear ow rb hb5
        have HRR : Hid (∀ ty, ∃ v' w', (Builtin.append_ #[56, 56] ty #[.slice oaF nf capF, .slice (some ⟨w5.heap.size, 0, none⟩) 1 1]).run Try.prog (w5.alloc (.cells #[.int .u16 (q : Int)] 40)) = .ok v' w' ∧ (OwnU w' w.heap.size v' (FL ++ [(q : Int)]) ∧ Below w.heap.size w w')) := fun ty => by
          have own3 := ow5.keep ((Below.refl _ _).alloc (Nat.le_refl _) (.cells #[.int .u16 (q : Int)] 40))
          have b4 : Below w.heap.size w (w5.alloc (.cells #[.int .u16 (q : Int)] 40)) := rb5.alloc rb5.size _
          obtain ⟨v', w', h1, h2, h3⟩ := own3.snoc ty w5.heap.size (q : Int) (Row.new _ _ _) b4.size (by rw [HNF.out]; omega)
          exact ⟨v', w', h1, h2, b4.grown h3 b4.size (fun k hk => own3.lt k hk)⟩
        clear ow5
        go_wp2_with (at_builtin; refine wpList_copy' rfl (.tmp 18) (.tmp 21) 56 rfl _ _ rfl rfl (fun ty => HRR.out ty) ?_; clear HRR; rintro v4 w4 ⟨own4, rb4⟩)
        go_roundw
        case rel => exact ⟨q + 1, by go_num, by omega, by rw [HSU.out]; exact own4, rb4⟩
        case measure => simp [intOf]; omega
      · have hno : hasW os (q : Int) = false := by cases e : hasW os (q : Int) with | true => exact absurd ((HM.out _).1 e) hin | false => rfl
        rw [hno] at hhs
        rw [if_neg hin, List.append_nil] at HSU
        go_wp2_with (go_at_call 31; refine hhs.mono ?_; clear hhs; rintro e w5 ⟨rfl, hb5⟩)
        have ow5 := ow.keep hb5
        have rb5 := rb.trans (hb5.mono rb.size)
        go_roundw
        case rel => exact ⟨q + 1, by go_num, by omega, by rw [HSU.out]; exact ow5, rb5⟩
        case measure => simp [intOf]; omega
    · have hq6' : ¬ (q : Int) < 65536 := by omega
      have hall : (PL.filter fun p => decide (p < (q : Int))) = PL := List.filter_eq_self.2 (fun p hp => by have := HBD.out p hp; simp; omega)
      rw [hall] at ow
      obtain ⟨oaF, capF, hvF, _⟩ := ow.form
      subst hvF
      go_wp2
      go_ret
      exact ⟨_, rfl, ow, rb⟩
end Go.Proofs.Ytmnbfcmamhinbab.Ws
