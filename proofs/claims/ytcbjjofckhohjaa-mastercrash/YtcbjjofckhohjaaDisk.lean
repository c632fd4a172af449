/-
  A disk as the document tells it, and as it lies in memory: its fields, the two maps of sectors, the writes that are pending, the set of operations that fail; what its small calls do.
-/
import Derived.Test.YtcbjjofckhohjaaSec
namespace Go.Proofs.Ytcbjjofckhohjaa
open Go.ChangeShapes Go.WideShapes Go.ChangeAt Go.RowKit
set_option linter.unusedVariables false
set_option linter.unusedSimpArgs false
set_option maxRecDepth 20000

/-- A disk, as it is told. -/
structure Dsk where
  n : Nat
  sure : Secs
  pend : List (Int × Int × List Int)
  down : Bool
  ops : Int
  fuse : Int
  fails : Int → Bool
/-- Writes, one behind the other, over what was there. -/
def over (f : Secs) : List (Int × Int × List Int) → Secs
  | [] => f
  | q :: r => over (f.put q.1 q.2.1 q.2.2) r
/-- Where the parts of a disk lie. -/
structure Loc where
  a : Nat
  b : Nat
  p : Value
  f : Value
def dcells (d : Dsk) (L : Loc) : Array Value := #[.int .i64 d.n, .map (some L.a), .map (some L.b), L.p, .bool d.down, .int .i64 d.ops, .int .i64 d.fuse, L.f]
def foot (g : Nat) (L : Loc) (k : Nat) : Prop := k = g ∨ k = L.a ∨ k = L.b ∨ L.p.ownBlock = some k ∨ L.f = .map (some k)
def pcell (q : Int × Int × List Int) : List Value := .int .i64 q.1 :: .int .i64 q.2.1 :: q.2.2.map (Value.int .u8)
def pcells (l : List (Int × Int × List Int)) : List Value := l.flatMap pcell
structure DAt (w : World) (g : Nat) (d : Dsk) (L : Loc) (N : Nat) : Prop where
  row : Row w g (dcells d L) 76
  sure : ∃ s, SMap w L.a s d.sure ∧ s + d.pend.length ≤ N
  fresh : SMap w L.b d.pend.length (over (fun _ _ => none) d.pend)
  ab : L.a ≠ L.b
  pend : w.ownsRow (g + 1) 84 66 L.p d.pend.length (pcells d.pend)
  fails : FMap w L.f d.fails
  fa : L.f ≠ .map (some L.a)
  fb : L.f ≠ .map (some L.b)
  big : N < 1000000000000
  okp : ∀ q ∈ d.pend, 0 ≤ q.1 ∧ q.1 < d.n ∧ 0 ≤ q.2.1 ∧ q.2.1 < 4 ∧ Sec q.2.2
  small : 1 ≤ d.n ∧ d.n ≤ 2048
  opsn : 0 ≤ d.ops
  fusew : Wf d.fuse

theorem wf_of {i : Int} (h : -9223372036854775808 ≤ i) (h' : i ≤ 9223372036854775807) : Wf i := WalkArith.wf_i64 ⟨h, h'⟩
theorem Row.map_ne {w : World} {g a n : Nat} {cs : Array Value} {t : TypeId} {f : Secs} (h : Row w g cs t) (hm : SMap w a n f) : a ≠ g := by
  rintro rfl
  obtain ⟨D, ⟨es, clock, hb, _⟩, _⟩ := hm
  unfold Row at h
  rw [h] at hb; cases hb
theorem DAt.ag {w : World} {g : Nat} {d : Dsk} {L : Loc} {N : Nat} (h : DAt w g d L N) : L.a ≠ g := by
  obtain ⟨s, hs, _⟩ := h.sure; exact h.row.map_ne hs
theorem DAt.bg {w : World} {g : Nat} {d : Dsk} {L : Loc} {N : Nat} (h : DAt w g d L N) : L.b ≠ g := h.row.map_ne h.fresh
theorem DAt.fg {w : World} {g : Nat} {d : Dsk} {L : Loc} {N : Nat} (h : DAt w g d L N) : L.f ≠ .map (some g) := by
  intro e
  rcases h.fails with ⟨q, _⟩ | ⟨m, n, D, q, ⟨es, clock, hb, _⟩, _⟩
  · rw [q] at e; cases e
  · rw [q] at e; cases e
    have := h.row
    unfold Row at this
    rw [this] at hb; cases hb
theorem DAt.pg {w : World} {g : Nat} {d : Dsk} {L : Loc} {N : Nat} (h : DAt w g d L N) : L.p.ownBlock ≠ some g := by
  intro e
  have := (h.pend.lt g e).1
  omega
theorem DAt.pm {w : World} {g : Nat} {d : Dsk} {L : Loc} {N : Nat} (h : DAt w g d L N) {k : Nat} {es : Array MapEntry} {c : Nat} (hk : w.heap[k]? = some (.map es c)) : L.p.ownBlock ≠ some k := by
  intro e
  rcases h.pend.2 with ⟨q, _⟩ | ⟨r, cap, cur, q, _, hr, _⟩
  · rw [q] at e; cases e
  · rw [q] at e
    simp [Value.ownBlock] at e
    subst e
    rw [hr] at hk; cases hk
theorem SMap.block {w : World} {a n : Nat} {f : Secs} (h : SMap w a n f) : ∃ es c, w.heap[a]? = some (.map es c) := by
  obtain ⟨D, ⟨es, clock, hb, _⟩, _⟩ := h; exact ⟨es, clock, hb⟩
theorem DAt.pa {w : World} {g : Nat} {d : Dsk} {L : Loc} {N : Nat} (h : DAt w g d L N) : L.p.ownBlock ≠ some L.a := by
  obtain ⟨s, hs, _⟩ := h.sure
  obtain ⟨es, c, hb⟩ := hs.block; exact h.pm hb
theorem DAt.pb {w : World} {g : Nat} {d : Dsk} {L : Loc} {N : Nat} (h : DAt w g d L N) : L.p.ownBlock ≠ some L.b := by
  obtain ⟨es, c, hb⟩ := h.fresh.block; exact h.pm hb
theorem DAt.lt {w : World} {g : Nat} {d : Dsk} {L : Loc} {N : Nat} (h : DAt w g d L N) {k : Nat} (hk : foot g L k) : k < w.heap.size := by
  rcases hk with rfl | rfl | rfl | e | e
  · exact h.row.lt
  · obtain ⟨s, hs, _⟩ := h.sure; exact hs.lt
  · exact h.fresh.lt
  · exact (h.pend.lt k e).2
  · rcases h.fails with ⟨q, _⟩ | ⟨m, n, D, q, hD, _⟩
    · rw [q] at e; cases e
    · rw [q] at e; cases e; exact hD.lt
theorem ownsRow_kept {w w' : World} {base : Nat} {e : TypeId} {size : Nat} {v : Value} {n : Nat} {xs : List Value} (h : w.ownsRow base e size v n xs) (hk : ∀ k, v.ownBlock = some k → k < w.heap.size → w'.heap[k]? = w.heap[k]?) : w'.ownsRow base e size v n xs := by
  have hl := h.lt
  obtain ⟨h1, h2⟩ := h
  refine ⟨h1, ?_⟩
  rcases h2 with h2 | ⟨g, cap, cur, rfl, hb, hc, rest⟩
  · exact Or.inl h2
  · have := hl g (by simp [Value.ownBlock])
    exact Or.inr ⟨g, cap, cur, rfl, hb, (hk g (by simp [Value.ownBlock]) this.2).trans hc, rest⟩
/-- A disk stays what it is while none of its blocks turns. -/
theorem DAt.off {F : Nat → Prop} {w w' : World} {g : Nat} {d : Dsk} {L : Loc} {N : Nat} (h : DAt w g d L N) (ho : Off F w w') (hF : ∀ k, foot g L k → ¬ F k) : DAt w' g d L N :=
  { h with
    row := h.row.off ho (hF _ (Or.inl rfl))
    sure := by obtain ⟨s, hs, hle⟩ := h.sure; exact ⟨s, hs.off ho (hF _ (Or.inr (Or.inl rfl))), hle⟩
    fresh := h.fresh.off ho (hF _ (Or.inr (Or.inr (Or.inl rfl))))
    pend := ownsRow_kept h.pend fun k e hl => ho.block k hl (hF _ (Or.inr (Or.inr (Or.inr (Or.inl e)))))
    fails := h.fails.off ho fun m e => hF _ (Or.inr (Or.inr (Or.inr (Or.inr e)))) }
theorem DAt.below {w w' : World} {g : Nat} {d : Dsk} {L : Loc} {N : Nat} (h : DAt w g d L N) (hb : Below w.heap.size w w') : DAt w' g d L N :=
  h.off (F := fun _ => False) (Off.of_below hb) fun _ _ q => q
theorem DAt.drew {w : World} {g : Nat} {d : Dsk} {L : Loc} {N : Nat} (h : DAt w g d L N) : DAt w.drew g d L N := h.below (Below.refl _ _).drew
theorem DAt.alloc {w : World} {g : Nat} {d : Dsk} {L : Loc} {N : Nat} (h : DAt w g d L N) (o : Obj) : DAt (w.alloc o) g d L N := h.below ((Below.refl _ _).alloc (Nat.le_refl _) _)
/-- A disk of which a plain field has turned. -/
theorem DAt.upd {w w' : World} {g : Nat} {d d' : Dsk} {L : Loc} {N : Nat} (h : DAt w g d L N) (ho : Off (· = g) w w') (hr : Row w' g (dcells d' L) 76) (h1 : d'.sure = d.sure) (h2 : d'.pend = d.pend) (h3 : d'.fails = d.fails) (h4 : d'.n = d.n) (h5 : 0 ≤ d'.ops) (h6 : Wf d'.fuse) : DAt w' g d' L N :=
  { h with
    row := hr
    sure := by obtain ⟨s, hs, hle⟩ := h.sure; exact ⟨s, by rw [h1]; exact hs.off ho h.ag, by rw [h2]; exact hle⟩
    fresh := by rw [h2]; exact h.fresh.off ho h.bg
    pend := by rw [h2]; exact ownsRow_kept h.pend fun k e hl => ho.block k hl (fun q => h.pg (q ▸ e))
    fails := by rw [h3]; exact h.fails.off ho fun m e q => h.fg (q ▸ e)
    okp := by rw [h2, h4]; exact h.okp
    small := by rw [h4]; exact h.small
    opsn := h5
    fusew := h6 }
theorem DAt.setOps {w : World} {g : Nat} {d : Dsk} {L : Loc} {N : Nat} (h : DAt w g d L N) (o : Int) (ho : 0 ≤ o) : DAt (w.setCell ⟨g, 5, none⟩ (.int .i64 o)) g { d with ops := o } L N :=
  h.upd (Off.of_setCell _ _ _ rfl) (row_set h.row 5 _) rfl rfl rfl rfl ho h.fusew
theorem DAt.setFuse {w : World} {g : Nat} {d : Dsk} {L : Loc} {N : Nat} (h : DAt w g d L N) (o : Int) (ho : Wf o) : DAt (w.setCell ⟨g, 6, none⟩ (.int .i64 o)) g { d with fuse := o } L N :=
  h.upd (Off.of_setCell _ _ _ rfl) (row_set h.row 6 _) rfl rfl rfl rfl h.opsn ho
theorem DAt.setDown {w : World} {g : Nat} {d : Dsk} {L : Loc} {N : Nat} (h : DAt w g d L N) (b : Bool) : DAt (w.setCell ⟨g, 4, none⟩ (.bool b)) g { d with down := b } L N :=
  h.upd (Off.of_setCell _ _ _ rfl) (row_set h.row 4 _) rfl rfl rfl rfl h.opsn h.fusew

/-- What an operation's count makes of it. -/
def count (d : Dsk) : Int × Dsk :=
  if d.ops + 1 = d.fuse then (4, { d with ops := d.ops + 1, down := true }) else if d.fails (d.ops + 1) then (3, { d with ops := d.ops + 1 }) else (0, { d with ops := d.ops + 1 })

theorem size_any {w : World} {g : Nat} {d : Dsk} {L : Loc} {N : Nat} (h : DAt w g d L N) :
    Calls Try.prog 54 #[.pointer (some ⟨g, 0, none⟩)] w fun e w' => e = .returned (.int .i64 d.n) ∧ w' = w := by
  have c0 := row_at h.row 0 (.int .i64 d.n) rfl
  go_enter Try.func54, Try.ntmps54
  go_wp2
  go_ret
  exact ⟨rfl, rfl⟩
theorem down_any {w : World} {g : Nat} {d : Dsk} {L : Loc} {N : Nat} (h : DAt w g d L N) :
    Calls Try.prog 45 #[.pointer (some ⟨g, 0, none⟩)] w fun e w' => e = .returned (.bool d.down) ∧ w' = w := by
  have c0 := row_at h.row 4 (.bool d.down) rfl
  go_enter Try.func45, Try.ntmps45
  go_wp2
  go_ret
  exact ⟨rfl, rfl⟩
theorem has_any {w : World} {g : Nat} {d : Dsk} {L : Loc} {N : Nat} (h : DAt w g d L N) (b : Int) :
    Calls Try.prog 46 #[.pointer (some ⟨g, 0, none⟩), .int .i64 b] w fun e w' => e = .returned (.bool (decide (0 ≤ b ∧ b < d.n))) ∧ w' = w := by
  by_cases h0 : 0 ≤ b
  · have e : decide (0 ≤ b ∧ b < (d.n : Int)) = decide (b < (d.n : Int)) := by simp [h0]
    rw [e]
    go_enter Try.func46, Try.ntmps46
    go_wp2_with (go_at_call 54; refine (size_any h).mono ?_; rintro e w' ⟨rfl, rfl⟩)
    go_ret
    exact ⟨rfl, rfl⟩
  · have e : decide (0 ≤ b ∧ b < (d.n : Int)) = false := by simp [h0]
    rw [e]
    go_enter Try.func46, Try.ntmps46
    go_wp2
    go_ret
    exact ⟨rfl, rfl⟩
end Go.Proofs.Ytcbjjofckhohjaa
