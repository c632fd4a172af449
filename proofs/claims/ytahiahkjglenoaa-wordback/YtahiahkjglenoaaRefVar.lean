/-
  Proved here: the document's Var (varveref01) of a number has the same groups as word.Var.
-/
import Derived.Test.YtahiahkjglenoaaVar
import Derived.Deep.RegionWith
import Derived.BigRegion
namespace Go.Proofs.Ytahiahkjglenoaa
open Go.ChangeShapes Go.WideShapes Go.ChangeAt Go.RowKit
set_option linter.unusedVariables false

theorem ng_one (v : Int) (h0 : 0 ≤ v) (h1 : v ≤ 18446744073709551615) (h : ng v = 1) : v < 128 := by
  rcases Int.lt_or_le v 128 with l | l
  · exact l
  · have := ng_step v l h1; have := ng_bounds (v / 128) (by omega) (by omega); omega
theorem ng_more (v : Int) (m : Nat) (h0 : 0 ≤ v) (h1 : v ≤ 18446744073709551615) (h : ng v = (m : Int) + 1 + 1) : 128 ≤ v ∧ ng (v / 128) = (m : Int) + 1 := by
  rcases Int.lt_or_le v 128 with l | l
  · have := ng_small v h0 l; omega
  · have := ng_step v l h1; omega
theorem pow7_succ (k : Nat) : (2 : Int) ^ (7 * (k + 1)) = 128 * 2 ^ (7 * k) := by
  rw [show 7 * (k + 1) = 7 + 7 * k by omega, Int.pow_add]; rfl
theorem div7 (v : Int) (k : Nat) : v / 2 ^ (7 * (k + 1)) = v / 128 / 2 ^ (7 * k) := by
  rw [pow7_succ, Int.ediv_ediv_of_nonneg (by decide)]
theorem grp_zero (v : Int) (h0 : 0 ≤ v) (h1 : v < 128) : grp v 0 = [v] := by
  simp [grp, glast]; omega
theorem grp_succ (v : Int) (m : Nat) : grp v (m + 1) = (128 + v % 128) :: grp (v / 128) m := by
  unfold grp
  rw [List.range_succ_eq_map]
  simp only [List.map_cons, List.map_map, List.cons_append]
  congr 1
  · simp [gmore]
  · congr 1
    · apply List.map_congr_left
      intro j _
      simp only [Function.comp, gmore, Nat.succ_eq_add_one, div7]
    · simp only [glast, div7]

theorem grown_cell {W w' : World} (h : Grown W w') {a : Addr} {v : Value} (hc : W.cell? a = some v) : w'.cell? a = some v := by
  have hs : a.block < W.heap.size := by
    rcases Nat.lt_or_ge a.block W.heap.size with l | l
    · exact l
    · simp [World.cell?, Array.getElem?_eq_none l] at hc
  have k := h.1.2.2 a.block hs
  unfold World.cell? at hc ⊢
  cases e1 : W.heap[a.block]? with
  | none => rw [e1] at hc; simp at hc
  | some o =>
    rw [e1] at hc k
    cases o with
    | cells c t fr =>
      cases e2 : w'.heap[a.block]? with
      | none => rw [e2] at k; simp at k
      | some o' =>
        rw [e2] at k
        cases o' with
        | cells c' t' fr' =>
          simp only at hc k ⊢
          rw [k.2.2.2 a.off (fun f => f)]
          exact hc
        | _ => simp at k
    | _ => simp at hc

theorem new_cell (w : World) (x : Value) : (w.alloc (.cells #[x] 5)).drew.cell? ⟨w.heap.size, 0, none⟩ = some x := by
  show (w.alloc (.cells #[x] 5)).cell? ⟨w.heap.size, 0, none⟩ = some x
  rw [World.cell?_alloc_new]
  rfl
theorem conv_one (x : Int) (W : World) (B : Nat) (hc : W.cell? ⟨B, 0, none⟩ = some (.int .u8 x)) :
    (Go.convert 40 9 (.slice (some ⟨B, 0, none⟩) 1 1)).run Try.prog W = .ok (.string (strOfNums [x])) W := by
  refine run_convert_bytes_arg (P := Try.prog) W 40 5 Try.underlying40 Try.underlying5 B 0 1 1 [x] rfl ?_ 9 Try.underlying9
  intro i hi
  have : i = 0 := by omega
  subst this
  exact hc

theorem grp_str (v : Int) (m : Nat) : strOfNums [128 + v % 128] ++ strOfNums (grp (v / 128) m) = strOfNums (grp v (m + 1)) := by
  rw [grp_succ, ← strOfNums_append]; rfl
theorem rvar_any (m : Nat) : ∀ (v : Int) (w : World), 0 ≤ v → v ≤ 18446744073709551615 → ng v = (m : Int) + 1 →
    Calls Try.prog 18 #[.int .u64 v] w fun e w' => e = .returned (.string (strOfNums (grp v m))) ∧ Grown w w' := by
  induction m with
  | zero =>
    intro v w h0 h1 hm
    have hl := ng_one v h0 h1 hm
    have hs := one_string v w
    have hg := grp_zero v h0 hl
    have HG : Hid (grp v 0 = [v]) := hg
    clear hm hg
    go_enter Try.func18, Try.ntmps18
    go_wp2_with fail
    go_ret
    exact ⟨ret_str (by rw [HG.out]), (Grown.refl _).alloc _ _⟩
  | succ m ih =>
    intro v w h0 h1 hm
    obtain ⟨hl, hn⟩ := ng_more v m h0 h1 (by simpa using hm)
    have HN : Hid (ng (v / 128) = (m : Int) + 1) := hn
    have HI : Hid (∀ (v : Int) (w : World), 0 ≤ v → v ≤ 18446744073709551615 → ng v = (m : Int) + 1 →
      Calls Try.prog 18 #[.int .u64 v] w fun e w' => e = .returned (.string (strOfNums (grp v m))) ∧ Grown w w') := ih
    clear hm hn ih
    go_enter Try.func18, Try.ntmps18
    go_wp2_with fail
    have hcv := conv_one (128 + v % 128)
    have he1 : IntKind.u8.wrap (IntKind.u64.wrap (128 + v.tmod 128)) = 128 + v % 128 := by
      rw [Int.tmod_eq_emod_of_nonneg h0, IntKind.wrap_u8, IntKind.wrap_u64]; omega
    have he2 : IntKind.u64.wrap (v.tdiv 128) = v / 128 := by
      rw [Int.tdiv_eq_ediv_of_nonneg h0, IntKind.wrap_u64]; omega
    have hz1 : (strOfNums [128 + v % 128]).size = 1 := rfl
    have hz2 : (strOfNums (grp (v / 128) m)).size = m + 1 := by rw [strOfNums_size, grp_length]
    have hm : m < 100 := by have := HN.out; have := ng_bounds (v / 128) (by omega) (by omega); omega
    go_region_with (go_at_call 18; refine (HI.out _ _ (by omega) (by omega) HN.out).mono ?_; rintro e w1 ⟨rfl, hg1⟩; first | have hc1 := grown_cell hg1 (new_cell w (.int .u8 (128 + v % 128))) | skip)
    all_goals go_wp2_with fail
    all_goals go_ret
    all_goals refine ⟨ret_str (grp_str v m), ?_⟩
    all_goals first
      | exact grown_trans ((Grown.refl w).alloc _ _) hg1
      | exact (show Grown w w1 from hg1).alloc _ _
end Go.Proofs.Ytahiahkjglenoaa
