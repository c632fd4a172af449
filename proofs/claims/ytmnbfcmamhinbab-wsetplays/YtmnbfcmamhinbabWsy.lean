/-
  Proved here: the statements' fixed run: a page that is written is read, and told.
-/
import Derived.Test.YtmnbfcmamhinbabWsx
namespace Go.Proofs.Ytmnbfcmamhinbab.Ws
open Go.ChangeShapes Go.WideShapes Go.ChangeAt Go.RowKit
open Go.Deep Go.Maps
set_option linter.unusedVariables false
set_option linter.unusedSimpArgs false

theorem built42z : Try.prog.built 42 [] = some (bs (zs 64)) := by kernel_rfl
def Za : List Int := splice (zs 64 ++ zs 64) (64 + 5) (nums ⟨#[120]⟩)
def La : List (Int × List Int) := putP [] 3 Za
theorem La_at : nowP (atP La 3) = zs 5 ++ [120] ++ zs 58 := by decide +kernel
theorem La_has : hasP La 3 = true := by decide +kernel
theorem La_len : La.length = 1 := by decide +kernel
def Na : List Int := zs 5 ++ [120] ++ zs 58
set_option maxRecDepth 20000 in
set_option maxHeartbeats 1000000 in
theorem awake_any (w : World) : Calls Try.prog 24 #[] w fun e w' => e = .returned (.bool true) ∧ Below w.heap.size w w' := by
  have hnew := new_any w
  have hz := zero42
  have H1 : Hid (∀ w1 s m, SAt w1 s m [] → Calls Try.prog 16 #[.pointer (some ⟨s, 0, none⟩), .int .u16 3, .agg (bs (zs 64)), .int .i64 5, .string ⟨#[120]⟩] w1 fun e w' => e = .returned (.int .i64 0) ∧ SAt w' s m La ∧ Off (two s m) w1 w') := fun w1 s m c => write_new c 3 (by decide) (zs 64) 5 ⟨#[120]⟩ (by decide) (by decide) (zs_length _) (fun y hy => by obtain rfl : y = 0 := List.eq_of_mem_replicate hy; omega) rfl (by decide)
  have H2 : Hid (∀ w1 s m, SAt w1 s m La → Calls Try.prog 18 #[.pointer (some ⟨s, 0, none⟩), .int .u16 3] w1 fun e w' => e = .returned (.tuple #[.agg (bs Na), .bool true]) ∧ Below w1.heap.size w1 w') := fun w1 s m c => by
    have := read_any c 3 (by decide)
    rw [La_at, La_has] at this
    exact this
  have H3 : Hid (∀ w1 s m, SAt w1 s m La → Calls Try.prog 22 #[.pointer (some ⟨s, 0, none⟩)] w1 fun e w' => ∃ a cap, e = .returned (.slice (some ⟨a, 0, none⟩) 1 cap) ∧ Below w1.heap.size w1 w') := fun w1 s m c => by
    refine (pages_any c).mono fun e w' ⟨a, cap, cur, h1, _, h2, _⟩ => ⟨a, cap, ?_, h2⟩
    rw [La_len] at h1
    exact h1
  have hN : (bs Na).size = 64 := by decide +kernel
  have hN5 : (bs Na)[5]? = some (.int .u8 120) := by kernel_rfl
  generalize Na = N at H2 hN hN5
  generalize La = L at H1 H2 H3
  go_enter Try.func24, Try.ntmps24
  go_upto_region 2 with (go_at_call 15; refine hnew.mono ?_; clear hnew; rintro e w1 ⟨s, he, hs, m, hm, c, b1⟩; obtain rfl := he)
  have HSM : Hid (w.heap.size ≤ s ∧ w.heap.size ≤ m) := ⟨hs, hm⟩
  clear hs hm
  go_upto_region 4 with (first
    | (refine build_none_g rfl 42 rfl _ built42z ?_)
    | (go_at_call 16; refine (H1.out _ _ _ c).mono ?_; clear H1; rintro e w2 ⟨he, c2, o2⟩; obtain rfl := he))
  have b2 := b1.trans (o2.below b1.size (fun k hk => by rcases hk with rfl | rfl; exact HSM.out.1; exact HSM.out.2))
  clear o2 b1 c
  have ts : Hid (2 = 2) := rfl
  go_upto_region 5 with (first
    | (go_at_call 18; refine (H2.out _ _ _ c2).mono ?_; clear H2; rintro e w3 ⟨he, b3⟩; obtain rfl := he; have q3 : Row (w3.alloc (.cells (bs (zs 64)) 42)) w3.heap.size (bs (zs 64)) 42 := Row.new _ _ _)
    | (have hh := ts; clear hh ts; refine store_cells rfl 42 (.tmp 2) (.tmp 16) rfl w3.heap.size (bs N) rfl rfl 42 _ q3 64 size42 (by rw [bs_size, zs_length]) hN (bs_one _) ?_))
  have c3 := c2.below b3
  have b4 := b2.trans (b3.mono b2.size)
  have bq := below_setRow ((Below.refl w3.heap.size w3).alloc (Nat.le_refl _) (.cells (bs (zs 64)) 42)) (Nat.le_refl _) (bs N)
  have c4 := c3.below bq
  have b5 := b4.trans (bq.mono b4.size)
  have q4 := q3.set (bs N)
  clear c2 c3 b2 b3 b4 bq q3
  generalize (w3.alloc (.cells (bs (zs 64)) 42)).setRow w3.heap.size (bs N) = w4 at c4 b5 q4 ⊢
  generalize w3.heap.size = g at q4 ⊢
  have c5 := row_at q4 5 _ hN5
  go_wp2_with (first
    | (go_at_call 22; refine (H3.out _ _ _ c4).mono ?_; clear H3; rintro e w5 ⟨a, cap, he, b6⟩; obtain rfl := he))
  go_ret
  exact ⟨rfl, b5.trans (b6.mono b5.size)⟩
end Go.Proofs.Ytmnbfcmamhinbab.Ws
