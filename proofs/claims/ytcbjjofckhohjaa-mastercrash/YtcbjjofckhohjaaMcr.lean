/-
  A disk beside the blocks of a walk; what Load tells of a disk whose operations fail at a place.
-/
import Derived.Test.YtcbjjofckhohjaaMaw
namespace Go.Proofs.Ytcbjjofckhohjaa
open Go.ChangeShapes Go.WideShapes Go.ChangeAt Go.RowKit
set_option linter.unusedVariables false
set_option linter.unusedSimpArgs false
set_option maxRecDepth 20000

/-- A disk that was made in a walk that began in w. -/
structure Dn (w wr : World) (G : Nat) (d : Dsk) (L : Loc) (N : Nat) : Prop where
  at_ : DAt wr G d L N
  lo : ∀ j, foot G L j → w.heap.size ≤ j
  be : Below w.heap.size w wr
/-- What lies beside it stays. -/
def Kept (wr w' : World) (G : Nat) (L L' : Loc) : Prop := ∀ g cs t, Row wr g cs t → ¬ foot G L g → Row w' g cs t ∧ ¬ foot G L' g
/-- A step of it. -/
def Goes (w wr : World) (G : Nat) (d' : Dsk) (L : Loc) (N' : Nat) (w' : World) : Prop := ∃ L', Dn w w' G d' L' N' ∧ Kept wr w' G L L'
theorem Dn.step {w wr wr' : World} {G : Nat} {d d' : Dsk} {L : Loc} {N N' : Nat} (h : Dn w wr G d L N) (hc : Crashed wr G d' L N' wr') : Goes w wr G d' L N' wr' := by
  obtain ⟨L', k1, k2, k3⟩ := hc
  refine ⟨L', ⟨k1, fun j hj => ?_, h.be.trans (k2.below h.be.size (fun k hk => h.lo k hk))⟩, fun g cs t r hn => ⟨r.off k2 hn, fun q => ?_⟩⟩
  · rcases k3 j hj with q | q
    · exact h.lo j q
    · exact Nat.le_trans h.be.size q
  · rcases k3 g q with q | q
    · exact hn q
    · have := r.lt; omega
theorem Dn.down {w wr wr' : World} {G : Nat} {d : Dsk} {L : Loc} {N : Nat} (h : Dn w wr G d L N) (hb : Below wr.heap.size wr wr') : Dn w wr' G d L N :=
  ⟨h.at_.below hb, h.lo, h.be.trans (hb.mono h.be.size)⟩
theorem Dn.fresh {w wr : World} {G : Nat} {d : Dsk} {L : Loc} {N : Nat} (h : Dn w wr G d L N) : ¬ foot G L wr.heap.size := fun q => by
  have := h.at_.lt q; omega
theorem Dn.put {w wr : World} {G : Nat} {d : Dsk} {L : Loc} {N : Nat} (h : Dn w wr G d L N) (g : Nat) (cs : Array Value) (hg : ¬ foot G L g) (hw : w.heap.size ≤ g) : Dn w (wr.setRow g cs) G d L N :=
  ⟨h.at_.setRow g cs hg, h.lo, below_setRow h.be hw cs⟩
theorem Dn.new {w wr : World} {G : Nat} {n : Nat} {wa : World} (hb : Below w.heap.size w wa) (hG : wa.heap.size + 2 = G) (hd : DAt wr G (Dsk.new n) (Loc.new wa.heap.size) 0) (hn : Below wa.heap.size wa wr) : Dn w wr G (Dsk.new n) (Loc.new wa.heap.size) 0 :=
  ⟨hd, fun j hj => by have := new_foot wa.heap.size j (by rw [hG]; exact hj); have := hb.size; omega, hb.trans (hn.mono hb.size)⟩
theorem Dn.new_out {G k g : Nat} (hG : k + 2 = G) (hg : g < k) : ¬ foot G (Loc.new k) g := fun q => by
  have := new_foot k g (by rw [hG]; exact q); omega
theorem Dn.write {w wr : World} {G : Nat} {d : Dsk} {L : Loc} {N : Nat} (h : Dn w wr G d L N) (ho : d.ops < 9223372036854775806) (b : Int) (x : List Int) (hx : x.length = 256) (xb : Bytes x) (hN : N + 4 < 1000000000000) :
    Calls Try.prog 17 #[.pointer (some ⟨G, 0, none⟩), .int .i64 b, .agg (bs x)] wr fun e w' => e = .returned (.int .i64 (writ d b x).1) ∧ Goes w wr G (writ d b x).2 L (N + 4) w' := by
  refine (write_any h.at_ ho b x hx xb hN).mono ?_
  rintro e w' ⟨rfl, L', h1, h2, h3⟩
  exact ⟨rfl, h.step ⟨L', h1, h2, h3⟩⟩
theorem Planned.crashed {w w' : World} {g : Nat} {d : Dsk} {L : Loc} {N : Nat} (h : Planned w g d L N w') : Crashed w g d L N w' := by
  obtain ⟨m, hm, h1, h2⟩ := h
  refine ⟨L.plan m, h1, h2.mono (fun j hj => Or.inl (Or.inl hj)), fun j hj => ?_⟩
  rcases hj with q | q | q | q | q
  · exact Or.inl (Or.inl q)
  · exact Or.inl (Or.inr (Or.inl q))
  · exact Or.inl (Or.inr (Or.inr (Or.inl q)))
  · exact Or.inl (Or.inr (Or.inr (Or.inr (Or.inl q))))
  · simp [Loc.plan] at q
    exact Or.inr (by omega)
theorem Dn.plan {w wr : World} {G : Nat} {d : Dsk} {L : Loc} {N : Nat} (h : Dn w wr G d L N) (k : Value) (zl : List Int) (hc : Cel wr k (zl.map (.int .i64))) (hne : ∀ a n c, k = .slice (some a) n c → a.block ≠ G) (zw : ∀ z ∈ zl, Wf z) (hl : zl.length * 8 ≤ 140737488355328) (f : Int) (hf : Wf f) :
    Calls Try.prog 18 #[.pointer (some ⟨G, 0, none⟩), k, .int .i64 f] wr fun e w' => e = .returned (.tuple #[]) ∧ Goes w wr G (d.plan zl f) L N w' := by
  refine (plan_any h.at_ k zl hc hne zw hl f hf).mono ?_
  rintro e w' ⟨rfl, h1⟩
  exact ⟨rfl, h.step h1.crashed⟩
theorem Dn.load {w wr : World} {G : Nat} {d : Dsk} {L : Loc} {N : Nat} (h : Dn w wr G d L N) (ho : d.ops < 9223372036854775804) :
    Calls Try.prog 19 #[.pointer (some ⟨G, 0, none⟩)] wr fun e w' => e = .returned (.tuple #[.agg (mcells (loadR d).1), .int .i64 (loadR d).2.1, .int .i64 (loadR d).2.2]) ∧ Goes w wr G (loadD d) L N w' := by
  refine (mload_any h.at_ ho).mono ?_
  rintro e w' ⟨rfl, h1, h2⟩
  exact ⟨rfl, h.step ⟨L, h1, h2, fun j hj => Or.inl hj⟩⟩
theorem Dn.store {w wr : World} {G : Nat} {d : Dsk} {L : Loc} {N : Nat} (h : Dn w wr G d L N) (ho : d.ops < 9223372036854775805) (hN : N + 4 < 1000000000000) (sl : Int) (m : M) (hf : m.Fit) :
    Calls Try.prog 21 #[.pointer (some ⟨G, 0, none⟩), .int .i64 sl, .agg (mcells m)] wr fun e w' => e = .returned (.int .i64 (storD d sl m).1) ∧ Goes w wr G (storD d sl m).2 L (N + 4) w' := by
  refine (mstore_any h.at_ ho hN sl m hf).mono ?_
  rintro e w' ⟨rfl, h1⟩
  exact ⟨rfl, h.step h1⟩
theorem Dn.crash {w wr : World} {G : Nat} {d : Dsk} {L : Loc} {N : Nat} (h : Dn w wr G d L N) (k : Value) (bl : List Bool) (hc : Cel wr k (bl.map .bool)) (hne : ∀ a n c, k = .slice (some a) n c → ¬ foot G L a.block) :
    Calls Try.prog 22 #[.pointer (some ⟨G, 0, none⟩), k] wr fun e w' => e = .returned (.tuple #[]) ∧ Goes w wr G (d.crash bl) L N w' := by
  refine (crash_any h.at_ k bl hc hne).mono ?_
  rintro e w' ⟨rfl, h1⟩
  exact ⟨rfl, h.step h1⟩

/-- Of a disk that was told to fail at one place. -/
theorem ask_plan (d : Dsk) (z k b : Int) (hd : d.down = false) (hb : 0 ≤ b ∧ b < d.n) (hk : 0 ≤ k) : ask ((d.plan [z] 0).tick k) b = (if k + 1 = z then 3 else 0, (d.plan [z] 0).tick (k + 1)) := by
  have e1 : ((d.plan [z] 0).tick k).down = false := hd
  have e2 : ((d.plan [z] 0).tick k).n = d.n := rfl
  have e3 : ((d.plan [z] 0).tick k).ops = k := rfl
  have e4 : ((d.plan [z] 0).tick k).fuse = 0 := rfl
  have e5 : ((d.plan [z] 0).tick k).fails (k + 1) = decide (k + 1 = z) := by
    show decide (k + 1 ∈ [z]) = _
    simp
  unfold ask
  rw [e1, if_neg (by simp), e2, if_pos hb]
  unfold count
  rw [e3, e4, if_neg (by omega), e5]
  by_cases h : k + 1 = z
  · rw [decide_eq_true h, if_pos rfl, if_pos h]; rfl
  · rw [decide_eq_false h, if_neg (by simp), if_neg h]; rfl
theorem read_plan (d : Dsk) (z k b : Int) (hd : d.down = false) (hb : 0 ≤ b ∧ b < d.n) (hk : 0 ≤ k) : read ((d.plan [z] 0).tick k) b = (if k + 1 = z then zs 256 else d.seen b, if k + 1 = z then 3 else 0, (d.plan [z] 0).tick (k + 1)) := by
  unfold read
  rw [ask_plan d z k b hd hb hk]
  by_cases h : k + 1 = z
  · simp only [if_pos h]
    rfl
  · simp only [if_neg h]
    rfl
theorem load_plan (d : Dsk) (z : Int) (hd : d.down = false) (hn : 2 ≤ d.n) : loadR (d.plan [z] 0) = if z = 1 ∨ z = 2 then (zm, 0, 3) else ldB (d.seen 0) (d.seen 1) := by
  have e : d.plan [z] 0 = (d.plan [z] 0).tick 0 := rfl
  have r0 := read_plan d z 0 0 hd (by omega) (by omega)
  have r1 := read_plan d z 1 1 hd (by omega) (by omega)
  rw [e]
  have d1 : dk ((d.plan [z] 0).tick 0) 1 = (d.plan [z] 0).tick 1 := by show (read ((d.plan [z] 0).tick 0) ((0 : Nat) : Int)).2.2 = _; exact congrArg (fun x => x.2.2) r0
  have b0 : bkD ((d.plan [z] 0).tick 0) 0 = if 0 + 1 = z then zs 256 else d.seen 0 := by show (read _ ((0 : Nat) : Int)).1 = _; rw [show ((0 : Nat) : Int) = 0 from rfl]; exact congrArg Prod.fst r0
  have e0 : ekD ((d.plan [z] 0).tick 0) 0 = if 0 + 1 = z then 3 else 0 := by show (read _ ((0 : Nat) : Int)).2.1 = _; rw [show ((0 : Nat) : Int) = 0 from rfl]; exact congrArg (fun x => x.2.1) r0
  have b1 : bkD ((d.plan [z] 0).tick 0) 1 = if 1 + 1 = z then zs 256 else d.seen 1 := by show (read (dk _ 1) ((1 : Nat) : Int)).1 = _; rw [d1, show ((1 : Nat) : Int) = 1 from rfl]; exact congrArg Prod.fst r1
  have e1 : ekD ((d.plan [z] 0).tick 0) 1 = if 1 + 1 = z then 3 else 0 := by show (read (dk _ 1) ((1 : Nat) : Int)).2.1 = _; rw [d1, show ((1 : Nat) : Int) = 1 from rfl]; exact congrArg (fun x => x.2.1) r1
  unfold loadR
  by_cases h1 : z = 1
  · rw [if_pos (Or.inl h1)]
    unfold ldR
    rw [e0, if_pos (show 0 + 1 = z by omega), if_pos (by decide)]
  · by_cases h2 : z = 2
    · rw [if_pos (Or.inr h2)]
      unfold ldR
      rw [e0, e1, if_neg (show ¬ 0 + 1 = z by omega), if_pos (show 1 + 1 = z by omega), if_neg (by decide), if_pos (by decide)]
    · rw [if_neg (by omega)]
      rw [if_neg (by omega)] at b0 e0 b1 e1
      exact ldR_congr _ _ _ _ b0 b1 e0 e1
end Go.Proofs.Ytcbjjofckhohjaa
