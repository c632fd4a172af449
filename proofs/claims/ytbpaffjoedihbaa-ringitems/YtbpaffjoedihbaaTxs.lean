/-
  Proved here: ring.texts, the function that it answers (for every loop body that keeps to the law of ranges over a function): the texts of the whole frames with which a stream begins, in order.
-/
import Derived.Test.YtbpaffjoedihbaaFmd
import Derived.RangeFuncNested
import Derived.RangeFuncBound
import Derived.RangeFuncCalls
import Derived.RangeFuncLeaves
import Derived.Shelf.Abstract
import Derived.Shelf.RegionOpen
import Derived.OwnWalkIn
import Derived.TacticsInMore
import Derived.LoopNIn
import Derived.LoopIn
namespace Go.Proofs.Ytbpaffjoedihbaa
open Go.ChangeShapes Go.WideShapes Go.ChangeAt Go.RowKit Go.Shelf
set_option linter.unusedVariables false
set_option linter.unusedSimpArgs false
attribute [local go_sem] Oper.semAt_some

/-- A text that may have a frame. -/
abbrev Tx := { t : ByteArray // t.size ≤ 400 }
def vals (l : List Tx) : List ByteArray := l.map (·.1)
theorem vals_snoc (l : List Tx) (x : Tx) : vals (l ++ [x]) = vals l ++ [x.1] := by simp [vals]
theorem vals_length (l : List Tx) : (vals l).length = l.length := by simp [vals]
def strLen : Value → Nat
  | .string b => b.size
  | _ => 0
theorem grown_none {W W' : World} (h : Below W.heap.size W W') : W.grownBy W' none := ⟨h.os, h.tape, h.output, h.size, fun k hk _ => h.block k hk⟩

set_option maxRecDepth 100000 in
set_option maxHeartbeats 2000000 in
theorem texts1_in (n : Nat) (hn : 2 ≤ n) (l Bn n₀ : Nat) (s : ByteArray) (hs : s.size ≤ maxLen) (J Jx : List Tx → World → Prop)
    (hY : ∀ pre x W, J pre W → pre.length < (tx s).length → YieldAt Fence.wide (n - 1) Try.prog l #[.string x.1] W fun e W' =>
      (e = .returned (.bool true) ∧ J (pre ++ [x]) W' ∧ Below n₀ W W') ∨ (e = .returned (.bool false) ∧ Jx (pre ++ [x]) W'))
    (W : World) (hJa : AbidesFrom W.heap.size J) (hBn : W.cell? ⟨Bn, 0, none⟩ = some (.string s)) (h0 : J [] W) :
    CallsIn Fence.wide n Try.prog 41 #[.func (.yield l) #[] #[], .pointer (some ⟨Bn, 0, none⟩)] W fun e W' => (∃ v, e = .returned v) ∧
      ((∃ ys, vals ys = tx s ∧ J ys W') ∨ (∃ pre, True ∧ Jx pre W')) := by
  refine callsIn_of_wp Try.func41 rfl trivial ?_ rfl
  simp only [Try.ntmps41, List.size_toArray, List.length_cons, List.length_nil, Nat.reduceAdd, Nat.reduceSub, Array.replicate_succ, Array.replicate_zero, List.push_toArray, List.append_toArray, List.nil_append, List.cons_append]
  gi_wp2
  gi_loopw [3] (fun p wr => ∃ (pre : List Tx) (r : ByteArray), p = .string r ∧ Hid (tx s = vals pre ++ tx r ∧ r.size ≤ maxLen ∧ J pre wr))
    (fun p wr => strLen p)
  case atStart =>
    exact ⟨[], s, rfl, rfl, hs, h0⟩
  case round =>
    obtain ⟨pre, r, rfl, HR⟩ := hrel
    have hr := HR.out.2.1
    have hn1 : 1 ≤ n := by omega
    have HF : Hid _ := fun w => framed_any r w hr
    cases hi : isF r with
    | false =>
      have HT : Hid (tx r = []) := tx_no hi
      rw [hi] at HF
      unfold maxLen at hr
      generalize gotF r = gg at HF
      gi_wp2_with (refine ⟨trivial, ?_⟩; gi_at_call 42; refine (callsIn_wide.2 (HF.out _)).mono ?_; clear HF; rintro e w1 ⟨rfl, b1⟩)
      refine ⟨fun _ h => (by cases h), ?_⟩
      gi_wp2
      refine bodyPost_ret (results_none rfl _ _ _) rfl ?_
      refine ⟨⟨_, rfl⟩, .inl ⟨pre, ?_, ?_⟩⟩
      · rw [HR.out.1, HT.out, List.append_nil]
      · exact hJa _ _ _ none HR.out.2.2 (grown_none b1) (fun r e => by cases e)
    | true =>
      have h1 := isF_size hi
      have h2 := isF_fits hi
      have h3 := frX_size h1
      have h4 := frR_size h1
      have HT : Hid (tx r = frX r :: tx (frR r)) := tx_yes hi
      have HG : Hid (gotF r = frX r) := by show _ = _; unfold gotF; rw [hi]; rfl
      rw [hi, HG.out] at HF
      have HRR : Hid (r.extract (6 + (frX r).size) r.size = frR r) := by show _ = _; rw [h3]; rfl
      have HL : Hid (pre.length < (tx s).length) := by show _ < _; rw [HR.out.1, HT.out, List.length_append, vals_length]; simp
      have hfx : (frX r).size ≤ 400 := by omega
      have hr2 : (frR r).size < r.size := by omega
      have hr3 : 6 + (frX r).size ≤ r.size := by omega
      clear h1 h2 h3 h4 hi HG
      obtain ⟨R, HRn⟩ : ∃ R, Hid (frR r = R) := ⟨_, rfl⟩
      rw [HRn.out] at HT HRR hr2
      generalize frX r = X at HF HT HRR hfx hr3
      have hrr := HRR.out
      unfold maxLen at hr
      have HY : Hid _ := fun W hJ => hY pre ⟨X, hfx⟩ W hJ HL.out
      gi_wp2_with (refine ⟨trivial, ?_⟩; gi_at_call 42; refine (callsIn_wide.2 (HF.out _)).mono ?_; clear HF; rintro e w1 ⟨rfl, b1⟩; obtain ⟨fn, tmps, assign, body, hy, hRd⟩ := HY.out w1 (hJa _ _ _ none HR.out.2.2 (grown_none b1) (fun r e => (nomatch e))); dsimp only at hy)
      refine hRd.mono ?_
      rintro e W3 (⟨rfl, hJ3, hk3⟩ | ⟨rfl, hJx3⟩)
      · gi_wp2
        go_roundw
        case rel => exact ⟨pre ++ [⟨X, hfx⟩], R, by rw [hrr], by rw [vals_snoc, HR.out.1, HT.out]; simp, by unfold maxLen; omega, hJ3⟩
        case measure => simp [strLen]; omega
      · gi_wp2
        refine bodyPost_ret (results_none rfl _ _ _) rfl ?_
        exact ⟨⟨_, rfl⟩, .inr ⟨_, trivial, hJx3⟩⟩

theorem texts_in (n : Nat) (s : ByteArray) (w : World) :
    CallsIn Fence.wide n Try.prog 37 #[.string s] w fun e w' => e = .returned (.func (.func 41) #[] #[.pointer (some ⟨w.heap.size, 0, none⟩)]) ∧ w' = w.alloc (.cells #[.string s] 9) := by
  refine callsIn_of_wp Try.func37 rfl trivial ?_ rfl
  simp only [Try.ntmps37, List.size_toArray, List.length_cons, List.length_nil, Nat.reduceAdd, Nat.reduceSub, Array.replicate_succ, Array.replicate_zero, List.push_toArray, List.append_toArray, List.nil_append, List.cons_append]
  gi_wp2
  go_ret
  exact ⟨rfl, rfl⟩

theorem texts_stops (n : Nat) (hn : 2 ≤ n) (Bn n₀ : Nat) (s : ByteArray) (hs : s.size ≤ maxLen) (w : World) (hBn : Bn < w.heap.size) (hn₀ : n₀ ≤ w.heap.size)
    (hc : w.cell? ⟨Bn, 0, none⟩ = some (.string s)) :
    SeqStopsK Fence.wide n Try.prog 41 #[.pointer (some ⟨Bn, 0, none⟩)] (fun x : Tx => #[Value.string x.1]) (Below n₀) (fun ys => vals ys = tx s) (fun _ => True) (tx s).length w := fun l J Jx W hW hJa _ hY h0 =>
  texts1_in n hn l Bn n₀ s hs J Jx hY W hJa ((hW.cell (p := ⟨Bn, 0, none⟩) hBn).trans hc) h0
end Go.Proofs.Ytbpaffjoedihbaa
