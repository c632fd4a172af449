/-
  Proved here: delta.tell is the text of the pieces: for each run of places its place, its number and a body's bytes.
-/
import Derived.Test.YtmnbfcmamhinbabDpl
import Derived.Deep.MidRow
namespace Go.Proofs.Ytmnbfcmamhinbab.Dl
open Go.ChangeShapes Go.WideShapes Go.ChangeAt Go.RowKit
set_option linter.unusedVariables false
set_option linter.unusedSimpArgs false
set_option maxRecDepth 20000

/-- The piece at a place, if there is one. -/
def pieceAt (b : List Int) (H : List Bool) (a : Nat) : List Int := if 0 < runAt H a then (a : Int) :: (runAt H a : Int) :: (b.drop a).take (runAt H a) else []
/-- The pieces from a place on. -/
def tellFrom (b : List Int) (H : List Bool) : Nat → Nat → List Int
  | 0, _ => []
  | f + 1, a => if a < 64 then pieceAt b H a ++ tellFrom b H f (a + runAt H a + 1) else []
def tell (b : List Int) (H : List Bool) : List Int := tellFrom b H 64 0
theorem tellFrom_end (b : List Int) (H : List Bool) (f a : Nat) (h : 64 ≤ a) : tellFrom b H f a = [] := by
  cases f with
  | zero => rfl
  | succ f => unfold tellFrom; rw [if_neg (by omega)]
theorem pieceAt_length (b : List Int) (H : List Bool) (a : Nat) : (pieceAt b H a).length ≤ 3 * (runAt H a + 1) := by
  unfold pieceAt
  split
  · simp; omega
  · simp

def Gather (b : List Int) (H : List Bool) (a : Nat) (xs : List Int) : Prop := ∃ f, 64 ≤ a + f ∧ xs ++ tellFrom b H f a = tell b H ∧ xs.length ≤ 3 * a
theorem Gather.start (b : List Int) (H : List Bool) : Gather b H 0 [] := ⟨64, by omega, rfl, by simp⟩
theorem Gather.step {b : List Int} {H : List Bool} {a : Nat} {xs : List Int} (h : Gather b H a xs) (ha : a < 64) : Gather b H (a + runAt H a + 1) (xs ++ pieceAt b H a) := by
  obtain ⟨f, h1, h2, h3⟩ := h
  cases f with
  | zero => omega
  | succ f =>
    refine ⟨f, by omega, ?_, ?_⟩
    · rw [List.append_assoc]
      unfold tellFrom at h2
      rw [if_pos ha] at h2; exact h2
    · have := pieceAt_length b H a
      rw [List.length_append]; omega
theorem Gather.stop {b : List Int} {H : List Bool} {a : Nat} {xs : List Int} (h : Gather b H a xs) (ha : 64 ≤ a) : xs = tell b H := by
  obtain ⟨f, h1, h2, h3⟩ := h
  rw [tellFrom_end b H f a ha, List.append_nil] at h2; exact h2

theorem row_ref {w w' : World} {row : Option Nat} (hg : w.grownBy w' row) {k : Nat} {cs : Array Value} {t : TypeId} (h : Row w k cs t) (hk : row ≠ some k) : Row w' k cs t := by
  unfold Row at h ⊢
  rw [hg.block k (Array.getElem?_eq_some_iff.1 h).1 (by first | exact fun e => hk e.symm | exact hk)]; exact h
theorem info5 : ∃ i, Try.prog.info? 5 = some i ∧ i.zero = some (.int .u8 0) ∧ i.size = 1 ∧ i.bytes = 1 := by
  have h : (Try.prog.info? 5).map (fun i => (i.zero, i.size, i.bytes)) = some (some (.int .u8 0), 1, 1) := by kernel_rfl
  cases hq : Try.prog.info? 5 with
  | none => simp [hq] at h
  | some i => simp [hq] at h; exact ⟨i, rfl, h.1, h.2.1, h.2.2⟩
theorem two_cells (w : World) (x y : Value) (t : TypeId) : ∀ j u, ([x, y] : List Value)[j]? = some u → (w.alloc (.cells #[x, y] t)).cell? ((⟨w.heap.size, 0, none⟩ : Addr).add j) = some u := by
  intro j u hj
  rw [Addr.add_mid, Nat.zero_add, cell_of_row _ _ j _ _ _ (heap_alloc_last w (.cells #[x, y] t))]
  simpa using hj
theorem part_cells {w : World} {g : Nat} {ys : List Int} {t : TypeId} (h : Row w g (bs ys) t) (a n : Nat) : ∀ j u, (((ys.drop a).take n).map (Value.int .u8))[j]? = some u → w.cell? ((⟨g, a, none⟩ : Addr).add j) = some u := by
  intro j u hj
  rw [Addr.add_mid, cell_of_row w g (a + j) _ _ _ h, bs_at]
  rw [List.getElem?_map, List.getElem?_take] at hj
  split at hj
  · rw [List.getElem?_drop] at hj; exact hj
  · simp at hj
theorem ints_one (ys : List Int) : ∀ u ∈ ys.map (Value.int .u8), u.oneCell' = true := by
  intro u hu
  obtain ⟨x, _, rfl⟩ := List.mem_map.1 hu
  rfl
theorem own_row {w : World} {base : Nat} {e : TypeId} {v : Value} {n : Nat} {xs : List Value} (h : w.ownsRow base e 1 v n xs) (k : Nat) (hk : k < base) : v.ownBlock ≠ some k := by
  intro q
  have := (h.lt k q).1
  omega

theorem own_string {w : World} {base : Nat} {v : Value} {xs : List Int} (h : w.ownsRow base 5 1 v xs.length (xs.map (Value.int .u8))) (hm : xs.length ≤ maxLen) :
    (Go.convert 76 9 v).run Try.prog w = .ok (.string (strOfNums xs)) w := by
  obtain ⟨_, ⟨rfl, h0⟩ | ⟨g, cap, cur, rfl, _, hg, hn, hc, hs, ht⟩⟩ := h
  · have : xs = [] := List.eq_nil_of_length_eq_zero h0
    subst this
    exact run_convert_bytes_nil (P := Try.prog) w 76 5 Try.underlying76 Try.underlying5 0 0 9 Try.underlying9
  · refine run_convert_bytes_arg (P := Try.prog) w 76 5 Try.underlying76 Try.underlying5 g 0 xs.length cap xs rfl ?_ 9 Try.underlying9
    intro i hi
    rw [Nat.zero_add, cell_of_row w g i _ _ _ hg]
    have := congrArg (·[i]?) ht
    simp only [Nat.mul_one] at this
    rw [List.getElem?_take, if_pos hi] at this
    simpa [List.getD, hi] using this
theorem len23 : Try.prog.arrayLen 42 = 64 := by kernel_rfl
theorem elem23 : Try.prog.elem 42 = 5 := by kernel_rfl
theorem slice42 (g a n : Nat) (hn : 0 < n) (h : a + n ≤ 64) (w : World) :
    (Instr.sliceAt 42 (.pointer (some ⟨g, 0, none⟩)) (some (.int .i64 (a : Int))) (some (.int .i64 ((a : Int) + (n : Int)))) none).run Try.prog w = .ok (.slice (some ⟨g, a, none⟩) n (64 - a)) w := by
  rw [run_sliceAt_array_lh (P := Try.prog) w 42 ⟨g, 0, none⟩ (by rw [len23, elem23]; exact Try.underlying42) .i64 .i64 (a : Int) ((a : Int) + (n : Int)) (by omega) (by omega) (by rw [len23]; omega)]
  rw [elem23, len23, Try.sizeOf5]
  simp only [Result.andThen_ok, slicedAt]
  have e1 : ((a : Int)).toNat = a := by omega
  have e2 : ((a : Int) + (n : Int)).toNat = a + n := by omega
  rw [e1, e2, if_neg (by omega), Addr.add_mid]
  congr 2
  · simp
  · omega

theorem tell_any (b : List Int) (hb : b.length = 64) (H : List Bool) (hl : H.length = 64) (w : World) :
    Calls Try.prog 38 #[.agg (bs b), .agg (bl H)] w fun e w' => e = .returned (.string (strOfNums (tell b H))) ∧ Below w.heap.size w w' := by
  go_enter Try.func38, Try.ntmps38
  go_wp2
  go_loopw [5, 6] (fun v i wr => ∃ a : Nat, ∃ xs, i = .int .i64 a ∧ a ≤ 65 ∧ Gather b H a xs ∧ wr.ownsRow (w.heap.size + 1 + 1) 5 1 v xs.length (xs.map (Value.int .u8)) ∧ Row wr w.heap.size (bs b) 42 ∧ Row wr (w.heap.size + 1) (bl H) 84 ∧ Below w.heap.size w wr) (fun _ i _ => 65 - (intOf i).toNat)
  case atStart =>
    refine ⟨0, [], rfl, by omega, Gather.start b H, World.ownsRow_nil _ _ _ _, (Row.new _ _ _).alloc _, ?_, ((Below.refl _ _).alloc (Nat.le_refl _) _).alloc (by simp) _⟩
    have := Row.new (w.alloc (.cells (bs b) 42)) (bl H) 84; simpa using this
  case round =>
    obtain ⟨a, xs, rfl, ha, hG, hown, r0, r1, rb⟩ := hrel
    by_cases hlt : a < 64
    · have hle := runAt_le H a hl (by omega)
      have hG' := hG.step hlt
      have hx3 : xs.length ≤ 3 * a := by obtain ⟨f, _, _, h⟩ := hG; exact h
      obtain ⟨n, HN⟩ : ∃ n, Hid (runAt H a = n) := ⟨_, rfl⟩
      have hpa : pieceAt b H a = if 0 < n then (a : Int) :: (n : Int) :: (b.drop a).take n else [] := by unfold pieceAt; rw [HN.out]
      rw [HN.out] at hle hG'
      by_cases h0 : 0 < n
      · rw [if_pos h0] at hpa
        rw [hpa] at hG'
        have h64 : ¬ 64 = a := by omega
        obtain ⟨i5, hi5, hz5, hs5, hb5⟩ := info5
        have HI : Hid (Try.prog.info? 5 = some i5) := hi5
        have HZ5 : Hid (i5.zero = some (.int .u8 0)) := hz5
        have HS5 : Hid (i5.size = 1) := hs5
        have HB5 : Hid (i5.bytes = 1) := hb5
        clear hi5 hz5 hs5 hb5
        have l1 := r1.lt
        have hsl := slice42 w.heap.size a n h0 hle
        have hm2 : Hid (xs.length + 2 ≤ maxLen) := by show xs.length + 2 ≤ maxLen; unfold maxLen; omega
        have hm3 : Hid (xs.length + 2 + n ≤ maxLen) := by show xs.length + 2 + n ≤ maxLen; unfold maxLen; omega
        have hn2 : Hid (((b.drop a).take n).length = n) := by show ((b.drop a).take n).length = n; simp; omega
        go_wp2_with (first
          | (go_at_call 40; refine (run_any (w.heap.size + 1) H hl a (by omega) _ r1).mono ?_; rw [HN.out]; rintro e wz ⟨rfl, rfl⟩)
          | (at_builtin; refine wpList_append_own _ rfl (.tmp 14) (.tmp 19) 76 rfl (w.heap.size + 1 + 1) 5 i5 (.int .u8 0) 1 1 Try.underlying76 HI.out HZ5.out HS5.out HB5.out rfl (by decide) _ xs.length (xs.map (Value.int .u8)) rfl (hown.alloc _) ⟨wz.heap.size, 0, none⟩ 2 2 [.int .u8 a, .int .u8 n] rfl rfl (two_cells wz _ _ 5) (ints_one [(a : Int), (n : Int)]) hm2.out (by omega) (by simp; omega) ?_
             intro v1 w1 hown1 hgr0 _
             have hgr1 : (wz.alloc (.cells #[.int .u8 (a : Int), .int .u8 (n : Int)] 5)).grownBy w1 u5.ownBlock := hgr0
             have hown2 : w1.ownsRow (w.heap.size + 1 + 1) 5 1 v1 (xs.length + 2) ((xs ++ [(a : Int), (n : Int)]).map (Value.int .u8)) := by rw [List.map_append]; exact hown1
             have q0 := row_ref hgr1 (r0.alloc _) (own_row hown _ (by omega))
             have q1 := row_ref hgr1 (r1.alloc _) (own_row hown _ (by omega))
             have qb := (rb.alloc (show w.heap.size ≤ wz.heap.size by omega) (.cells #[.int .u8 (a : Int), .int .u8 (n : Int)] 5)).grown hgr1 (by simp; omega) (fun k hk => by have := (hown.lt k hk).1; omega)
             clear hgr0 hgr1 hown1 hown r0 r1 rb)
          | (at_builtin; refine wpList_append_own _ rfl (.tmp 21) (.tmp 26) 76 rfl (w.heap.size + 1 + 1) 5 i5 (.int .u8 0) 1 1 Try.underlying76 HI.out HZ5.out HS5.out HB5.out rfl (by decide) _ (xs.length + 2) ((xs ++ [(a : Int), (n : Int)]).map (Value.int .u8)) rfl hown2 ⟨w.heap.size, a, none⟩ n (64 - a) (((b.drop a).take n).map (Value.int .u8)) rfl (by rw [List.length_map, hn2.out, Nat.mul_one]) (part_cells q0 a n) (ints_one _) hm3.out (by omega) (by have := q1.lt; omega) ?_
             intro v2 w2 hown3 hgr0 _
             have hgr1 : w1.grownBy w2 v1.ownBlock := hgr0
             have z0 := row_ref hgr1 q0 (own_row hown2 _ (by omega))
             have z1 := row_ref hgr1 q1 (own_row hown2 _ (by omega))
             have zb := qb.grown hgr1 (by have := q1.lt; omega) (fun k hk => by have := (hown2.lt k hk).1; omega)
             have hown4 : w2.ownsRow (w.heap.size + 1 + 1) 5 1 v2 (xs ++ (a : Int) :: (n : Int) :: (b.drop a).take n).length ((xs ++ (a : Int) :: (n : Int) :: (b.drop a).take n).map (Value.int .u8)) := by
               have e1 : (xs ++ (a : Int) :: (n : Int) :: (b.drop a).take n) = (xs ++ [(a : Int), (n : Int)]) ++ (b.drop a).take n := by simp
               rw [e1, List.map_append, List.length_append, hn2.out]
               simpa using hown3
             clear hgr0 hgr1 hown3 hown2 q0 q1 qb))
        go_roundw
        case rel => exact ⟨a + n + 1, _, by go_num, by omega, hG', hown4, z0, z1, zb⟩
        case measure => simp [intOf]; omega
      · rw [if_neg h0] at hpa
        rw [hpa, List.append_nil] at hG'
        have hn0 : n = 0 := by omega
        subst hn0
        go_wp2_with (first
          | (go_at_call 40; refine (run_any (w.heap.size + 1) H hl a (by omega) _ r1).mono ?_; rw [HN.out]; rintro e wz ⟨rfl, rfl⟩))
        go_roundw
        case rel => exact ⟨a + 0 + 1, xs, by go_num, by omega, hG', hown, r0, r1, rb⟩
        case measure => simp [intOf]; omega
    · have he : Hid (xs = tell b H) := hG.stop (by omega)
      have hx3 : xs.length ≤ 3 * a := by obtain ⟨f, _, _, h⟩ := hG; exact h
      have hlt' : ¬ (a : Int) < 64 := by omega
      have hcv : (Go.convert 76 9 u5).run Try.prog wr = .ok (.string (strOfNums xs)) wr := own_string hown (by unfold maxLen; omega)
      go_wp2
      go_ret
      exact ⟨by rw [← he.out]; rfl, rb⟩
end Go.Proofs.Ytmnbfcmamhinbab.Dl
