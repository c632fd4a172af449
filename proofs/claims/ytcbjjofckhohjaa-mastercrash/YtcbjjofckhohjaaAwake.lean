/-
  Proved here: disk.Write where it is refused; that what was written is read (the statements' own fixed run).
-/
import Derived.Test.YtcbjjofckhohjaaWrite
namespace Go.Proofs.Ytcbjjofckhohjaa
open Go.ChangeShapes Go.WideShapes Go.ChangeAt Go.RowKit
set_option linter.unusedVariables false
set_option linter.unusedSimpArgs false
set_option maxRecDepth 20000

/-- Write, where it is refused. -/
theorem write_err (v : Value) (b E : Int) (hE : ¬ E = 0) (x : List Int) (w : World) (F : Nat → Prop) (T : World → Prop)
    (hh : ∀ wa, Below w.heap.size w wa → Calls Try.prog 33 #[v, .int .i64 b] wa fun e w' => e = .returned (.int .i64 E) ∧ Off F wa w' ∧ T w') :
    Calls Try.prog 17 #[v, .int .i64 b, .agg (bs x)] w fun e w' => e = .returned (.int .i64 E) ∧ Off F w w' ∧ T w' := by
  have ab : Below w.heap.size w (w.alloc (.cells (bs x) 29)) := (Below.refl _ _).alloc (Nat.le_refl _) _
  go_enter Try.func17, Try.ntmps17
  go_wp2_with (go_at_call 33; refine (hh _ ab).mono ?_; rintro e w' ⟨rfl, ho, ht⟩)
  go_ret
  exact ⟨rfl, (Off.of_below (F := F) ab).trans ho (fun j hj => Or.inl hj), ht⟩
/-- What Write answers and leaves. -/
def writ (d : Dsk) (b : Int) (x : List Int) : Int × Dsk := if (ask d b).1 = 0 then (0, (ask d b).2.wrote b x 4) else ask d b
theorem write_any {w : World} {g : Nat} {d : Dsk} {L : Loc} {N : Nat} (h : DAt w g d L N) (ho : d.ops < 9223372036854775806) (b : Int) (x : List Int) (hx : x.length = 256) (xb : Bytes x) (hN : N + 4 < 1000000000000) :
    Calls Try.prog 17 #[.pointer (some ⟨g, 0, none⟩), .int .i64 b, .agg (bs x)] w fun e w' => e = .returned (.int .i64 (writ d b x).1) ∧ ∃ L', DAt w' g (writ d b x).2 L' (N + 4) ∧ Off (foot g L) w w' ∧ ∀ j, foot g L' j → foot g L j ∨ w.heap.size ≤ j := by
  by_cases e0 : (ask d b).1 = 0
  · have e : writ d b x = (0, (ask d b).2.wrote b x 4) := by unfold writ; rw [if_pos e0]
    rw [e]
    exact write_in h ho b x hx xb hN e0
  · have e : writ d b x = ask d b := by unfold writ; rw [if_neg e0]
    rw [e]
    refine (write_err _ b (ask d b).1 e0 x w (foot g L) (fun w' => DAt w' g (ask d b).2 L N) fun wa hb => ?_).mono ?_
    · refine (ask_any (h.below hb) ho b).mono ?_
      rintro e w' ⟨rfl, h1, h2⟩
      exact ⟨rfl, h2.mono (fun j hj => Or.inl (Or.inl hj)), h1⟩
    · rintro e w' ⟨rfl, h1, h2⟩
      refine ⟨rfl, L, { h2 with sure := ?_, big := hN }, h1, fun j hj => Or.inl hj⟩
      obtain ⟨s, hs, hle⟩ := h2.sure
      exact ⟨s, hs, by omega⟩
theorem wrote_seen (d : Dsk) (b : Int) (x : List Int) (hx : x.length = 256) : (d.wrote b x 4).seen b = x := by
  unfold Dsk.seen Secs.block
  have e : (d.wrote b x 4).sure = d.sure ∧ (d.wrote b x 4).pend = d.pend ++ [(b, 0, cut x 0), (b, 1, cut x 1), (b, 2, cut x 2), (b, 3, cut x 3)] := by
    constructor
    · rfl
    · simp [Dsk.wrote, Dsk.push]
  rw [e.1, e.2, over_append]
  generalize over d.sure d.pend = f
  have h2 : ∀ i : Nat, i < 4 → (over f [(b, 0, cut x 0), (b, 1, cut x 1), (b, 2, cut x 2), (b, 3, cut x 3)]).get b (i : Int) = cut x i := by
    intro i hi
    have : i = 0 ∨ i = 1 ∨ i = 2 ∨ i = 3 := by omega
    rcases this with rfl | rfl | rfl | rfl <;> simp [over, Secs.put, Secs.get]
  rw [blk_congr _ (cut x) (fun i hi => by rw [h2 i hi]; exact cut_length x i hx hi) h2]
  exact blk_cut x hx
theorem wrote_ops (d : Dsk) (b : Int) (x : List Int) : (d.wrote b x 4).ops = d.ops ∧ (d.wrote b x 4).down = d.down ∧ (d.wrote b x 4).n = d.n ∧ (d.wrote b x 4).fuse = d.fuse ∧ (d.wrote b x 4).fails = d.fails := ⟨rfl, rfl, rfl, rfl, rfl⟩

end Go.Proofs.Ytcbjjofckhohjaa
