/-
  Proved here: what wset.Delta tells, and that it makes of what a page was what it is.
-/
import Derived.Test.YtmnbfcmamhinbabWsu
import Derived.Test.YtmnbfcmamhinbabDth
namespace Go.Proofs.Ytmnbfcmamhinbab.Ws
open Go.ChangeShapes Go.WideShapes Go.ChangeAt Go.RowKit
open Go.Deep Go.Maps
set_option linter.unusedVariables false
set_option linter.unusedSimpArgs false
set_option maxRecDepth 20000

/-- The delta of two bodies. -/
def delS (x y : List Int) : ByteArray := strOfNums (Dl.tell y (Dl.hasD x y 64))
theorem delS_size (x y : List Int) (hy : y.length = 64) : (delS x y).size ≤ maxLen := by
  have h1 := Dl.make_short x y hy
  have h2 := strOfNums_size (Dl.tell y (Dl.hasD x y 64))
  unfold delS maxLen; omega
theorem delS_back (x y : List Int) (hx : x.length = 64) (hy : y.length = 64) (yy : Bytes y) : Dl.applied x (delS x y) = .tuple #[.agg (bs y), .int .i64 0] := by
  obtain ⟨ps, hps, hap⟩ := Dl.make_back x y hx hy yy
  unfold Dl.applied delS; rw [hps]; simp only []; rw [hap]
theorem baseP_len {ys : List Int} (h : Wr ys) : (baseP ys).length = 64 := by unfold baseP; rw [List.length_take, List.length_drop, h.1]; omega
theorem nowP_lenD {ys : List Int} (h : Wr ys) : (nowP ys).length = 64 := by unfold nowP; rw [List.length_take, List.length_drop, h.1]; omega
set_option maxHeartbeats 1000000 in
theorem delta_any {w : World} {s m : Nat} {L : List (Int × List Int)} (c : SAt w s m L) (k : Int) (hk : (Lit.int .u16 k).wf = true) (hh : hasP L k = true) :
    Calls Try.prog 20 #[.pointer (some ⟨s, 0, none⟩), .int .u16 k] w fun e w' => e = .returned (.string (delS (baseP (atP L k)) (nowP (atP L k)))) ∧ Below w.heap.size w w' := by
  have HW : Hid (Wr (atP L k)) := c.at_wr k
  have hz2 := zero73
  have hf := find_any c k hk
  rw [hh] at hf
  have HMK : Hid (∀ w, Calls Try.prog 32 #[.agg (bs (baseP (atP L k))), .agg (bs (nowP (atP L k)))] w fun e w' => e = .returned (.string (delS (baseP (atP L k)) (nowP (atP L k)))) ∧ Below w.heap.size w w') := fun w => Dl.make_any _ _ (baseP_len HW.out) (nowP_lenD HW.out) w
  obtain ⟨DS, HDS⟩ : ∃ DS, Hid (delS (baseP (atP L k)) (nowP (atP L k)) = DS) := ⟨_, rfl⟩
  rw [HDS.out] at HMK ⊢
  obtain ⟨ys, HY⟩ : ∃ ys, Hid (atP L k = ys) := ⟨_, rfl⟩
  rw [HY.out] at hf HMK HW
  have hwl := HW.out.1
  have ts : Hid (1 = 1) := rfl
  go_enter Try.func20, Try.ntmps20
  go_upto_region 4 with (first
    | (go_at_call 30; refine hf.mono ?_; clear hf; rintro e w1 ⟨he, b1⟩; obtain rfl := he; have rA : Row (w1.alloc (.cells (bs (zs 128)) 73)) w1.heap.size (bs (zs 128)) 73 := Row.new _ _ _; have rB := rA.set (bs ys); have b2 : Below w.heap.size w ((w1.alloc (.cells (bs (zs 128)) 73)).setRow w1.heap.size (bs ys)) := below_setRow (b1.alloc b1.size _) b1.size _)
    | (have hh := ts; clear hh ts; refine store_cells rfl 73 (.tmp 5) (.tmp 11) rfl w1.heap.size (bs ys) rfl rfl 73 _ rA 128 size73 (by rw [bs_size, zs_length]) (by rw [bs_size]; exact hwl) (bs_one ys) ?_))
  clear rA b1
  generalize (w1.alloc (.cells (bs (zs 128)) 73)).setRow w1.heap.size (bs ys) = W1 at rB b2 ⊢
  generalize w1.heap.size = A1 at rB ⊢
  have tl : Hid (1 = 1) := rfl
  go_wp2_with (first
    | (have hh := tl; clear hh tl; refine load_part rfl (.tmp 15) rfl A1 0 rfl ys 73 rB (by omega) ?_; have t2 : Hid (2 = 2) := rfl)
    | (have hh := t2; clear hh t2; refine load_part rfl (.tmp 17) rfl A1 64 rfl ys 73 rB (by omega) ?_)
    | (go_at_call 32; refine (HMK.out _).mono ?_; rintro e w5 ⟨rfl, b5⟩))
  go_ret
  exact ⟨rfl, b2.trans (b5.mono b2.size)⟩
end Go.Proofs.Ytmnbfcmamhinbab.Ws
