/-
  Proved here: delta.pieces hands the pieces of a text over one by one, and tells whether the text is a delta.
-/
import Derived.Test.YtmnbfcmamhinbabDmk
namespace Go.Proofs.Ytmnbfcmamhinbab.Dl
open Go.ChangeShapes Go.WideShapes Go.ChangeAt Go.RowKit
set_option linter.unusedVariables false
set_option linter.unusedSimpArgs false
set_option maxRecDepth 20000

/-- The bytes of a text as numbers. -/
def nums (s : ByteArray) : List Int := s.data.toList.map fun c => (c.toNat : Int)
theorem nums_length (s : ByteArray) : (nums s).length = s.size := by simp [nums]
theorem nums_bytes (s : ByteArray) : Bytes (nums s) := by
  intro y hy
  obtain ⟨c, _, rfl⟩ := List.mem_map.1 hy
  have := c.toNat_lt; omega
theorem nums_at (s : ByteArray) (i : Nat) (h : i < s.size) : (nums s).getD i 0 = ((s[i]'h).toNat : Int) := by
  have h' : i < s.data.toList.length := h
  simp only [nums, List.getD, List.getElem?_map]
  rw [List.getElem?_eq_getElem h']
  rfl
theorem nums_extract (s : ByteArray) (a b : Nat) (hb : b ≤ s.size) : nums (s.extract a b) = ((nums s).drop a).take (b - a) := by
  obtain ⟨⟨l⟩⟩ := s
  rw [ByteArray.extract_mk]
  simp [nums, List.map_take, List.map_drop]
/-- The pieces of a text from the least place nx on; none: it is no delta. -/
def parse : Nat → Nat → List Int → Option (List (Nat × List Int))
  | 0, _, _ => none
  | _ + 1, _, [] => some []
  | _ + 1, _, [_] => none
  | f + 1, nx, a :: n :: r => if a < nx ∨ n = 0 ∨ 64 < a + n ∨ (r.length : Int) < n then none else (parse f (a + n + 1).toNat (r.drop n.toNat)).map ((a.toNat, r.take n.toNat) :: ·)
theorem parse_cons2 (f nx : Nat) (a n : Int) (r : List Int) : parse (f + 1) nx (a :: n :: r) = if a < nx ∨ n = 0 ∨ 64 < a + n ∨ (r.length : Int) < n then none else (parse f (a + n + 1).toNat (r.drop n.toNat)).map ((a.toNat, r.take n.toNat) :: ·) := rfl
def pieces (s : ByteArray) : Option (List (Nat × List Int)) := parse (s.size + 1) 0 (nums s)

/-- Some pieces are handed over, and what is left is this text. -/
def Left (s0 : ByteArray) (nx : Nat) (s : ByteArray) (done : List (Nat × List Int)) : Prop := ∃ f, s.size < f ∧ pieces s0 = (parse f nx (nums s)).map (done ++ ·)
theorem Left.start (s : ByteArray) : Left s 0 s [] := ⟨s.size + 1, by omega, by unfold pieces; cases parse (s.size + 1) 0 (nums s) <;> simp⟩
theorem nums_cons2 (s : ByteArray) (h : 2 ≤ s.size) : nums s = (nums s).getD 0 0 :: (nums s).getD 1 0 :: (nums s).drop 2 := by
  have hl := nums_length s
  match hq : nums s with
  | [] => rw [hq] at hl; simp at hl; omega
  | [_] => rw [hq] at hl; simp at hl; omega
  | a :: n :: r => simp [List.getD]
theorem Left.bad1 {s0 s : ByteArray} {nx : Nat} {done : List (Nat × List Int)} (h : Left s0 nx s done) (hs : s.size = 1) : pieces s0 = none := by
  obtain ⟨f, hf, he⟩ := h
  have hl := nums_length s
  rw [he]
  match hq : nums s, f with
  | [], _ => rw [hq] at hl; simp at hl; omega
  | [_], 0 => omega
  | [_], f + 1 => simp [parse]
  | _ :: _ :: _, _ => rw [hq] at hl; simp at hl; omega
theorem Left.bad {s0 s : ByteArray} {nx : Nat} {done : List (Nat × List Int)} (h : Left s0 nx s done) (hs : 2 ≤ s.size) (a n : Int) (ha : (nums s).getD 0 0 = a) (hn : (nums s).getD 1 0 = n) (hb : a < nx ∨ n = 0 ∨ 64 < a + n ∨ (s.size : Int) - 2 < n) : pieces s0 = none := by
  obtain ⟨f, hf, he⟩ := h
  have hl := nums_length s
  cases f with
  | zero => omega
  | succ f =>
    rw [he, nums_cons2 s hs, ha, hn]
    have hr : ((nums s).drop 2).length = s.size - 2 := by rw [List.length_drop, hl]
    rw [parse_cons2, if_pos (by rw [hr]; omega)]; rfl
theorem Left.step {s0 s : ByteArray} {nx : Nat} {done : List (Nat × List Int)} (h : Left s0 nx s done) (hs : 2 ≤ s.size) (a n : Nat) (ha : (nums s).getD 0 0 = a) (hn : (nums s).getD 1 0 = n) (hb : ¬ (a < nx ∨ n = 0 ∨ 64 < a + n ∨ s.size < 2 + n)) :
    Left s0 (a + n + 1) (s.extract (2 + n) s.size) (done ++ [(a, nums (s.extract 2 (2 + n)))]) := by
  obtain ⟨f, hf, he⟩ := h
  have hl := nums_length s
  cases f with
  | zero => omega
  | succ f =>
    refine ⟨f, by rw [ByteArray.size_extract]; omega, ?_⟩
    rw [he, nums_cons2 s hs, ha, hn]
    have hr : ((nums s).drop 2).length = s.size - 2 := by rw [List.length_drop, hl]
    rw [parse_cons2, if_neg (by rw [hr]; omega)]
    have e1 : ((a : Int) + (n : Int) + 1).toNat = a + n + 1 := by omega
    rw [nums_extract s _ _ (Nat.le_refl _), nums_extract s _ _ (by omega)]
    have e2 : ((nums s).drop (2 + n)).take (s.size - (2 + n)) = ((nums s).drop 2).drop n := by
      rw [List.drop_drop, List.take_of_length_le (by rw [List.length_drop, hl]; omega)]
    have e3 : 2 + n - 2 = n := by omega
    rw [e1, e2, e3, show ((n : Int)).toNat = n by omega, show ((a : Int)).toNat = a by omega]
    cases parse f (a + n + 1) (((nums s).drop 2).drop n) <;> simp
theorem Left.stop {s0 s : ByteArray} {nx : Nat} {done : List (Nat × List Int)} (h : Left s0 nx s done) (hs : s.size = 0) : pieces s0 = some done := by
  obtain ⟨f, hf, he⟩ := h
  have hl := nums_length s
  have hq : nums s = [] := List.eq_nil_of_length_eq_zero (by omega)
  cases f with
  | zero => omega
  | succ f => rw [he, hq]; simp [parse]

def sizeStr : Value → Nat
  | .string s => s.size
  | _ => 0
theorem ent23 (args : Array Value) (w : World) : (callFunc 42 args).run Try.prog w = .ok (.enter 42 args) w := by
  simp [go_sem]
theorem ent21 (args : Array Value) (w : World) : (callFunc 36 args).run Try.prog w = .ok (.enter 36 args) w := by
  simp [go_sem]
theorem ent24 (args : Array Value) (w : World) : (callFunc 24 args).run Try.prog w = .ok (.enter 24 args) w := by
  simp [go_sem]
set_option maxHeartbeats 1000000 in
theorem pieces_any (c : FuncId) (cap : Array Value) (hent : ∀ args w, (callFunc c args).run Try.prog w = .ok (.enter c args) w) (Inv : List (Nat × List Int) → World → Prop)
    (hC : ∀ done a (t : ByteArray) w, 0 < t.size → a + t.size ≤ 64 → Inv done w → Calls Try.prog c (#[.int .i64 (a : Nat), .string t] ++ cap) w fun e w' => e = .returned (.tuple #[]) ∧ Inv (done ++ [(a, nums t)]) w')
    (hD : ∀ done w, Inv done w → Inv done w.drew) (s0 : ByteArray) (hs0 : s0.size ≤ maxLen) (w : World) (h0 : Inv [] w) :
    Calls Try.prog 35 #[.string s0, .func (.func c) #[] cap] w fun e w' => e = .returned (.bool (pieces s0).isSome) ∧ ∃ done, Inv done w' ∧ ∀ ps, pieces s0 = some ps → done = ps := by
  unfold maxLen at hs0
  go_enter Try.func35, Try.ntmps35
  go_wp2
  go_loopw [0, 5] (fun t i wr => ∃ (s : ByteArray) (nx : Nat) (done : List (Nat × List Int)), t = .string s ∧ i = .int .i64 nx ∧ s.size ≤ s0.size ∧ nx ≤ 65 ∧ Left s0 nx s done ∧ Inv done wr) (fun t _ _ => sizeStr t)
  case atStart => exact ⟨s0, 0, [], rfl, rfl, Nat.le_refl _, by omega, Left.start s0, h0⟩
  case round =>
    obtain ⟨s, nx, done, rfl, rfl, hss, hnx, hL, hI⟩ := hrel
    have hmx : s.size ≤ 9223372036854775807 := by omega
    by_cases hz : s.size = 0
    · have hp := hL.stop hz
      have HP : Hid (pieces s0 = some done) := hp
      clear hp hC
      have hz' : ¬ 0 < (s.size : Int) := by omega
      go_wp2
      go_ret
      exact ⟨by rw [HP.out]; rfl, done, hI, fun ps h => by rw [HP.out] at h; cases h; rfl⟩
    · have hz' : 0 < (s.size : Int) := by omega
      by_cases h2 : (s.size : Int) < 2
      · have HP : Hid (pieces s0 = none) := hL.bad1 (by omega)
        clear hC
        go_wp2
        go_ret
        exact ⟨by rw [HP.out]; rfl, done, hI, fun ps h => by rw [HP.out] at h; cases h⟩
      · have hs2 : 2 ≤ s.size := by omega
        have e0 := nums_at s 0 (by omega)
        have e1 := nums_at s 1 (by omega)
        obtain ⟨a, ha⟩ : ∃ a, (s[0]'(by omega)).toNat = a := ⟨_, rfl⟩
        obtain ⟨n, hn⟩ : ∃ n, (s[1]'(by omega)).toNat = n := ⟨_, rfl⟩
        have ha255 : a < 256 := by rw [← ha]; exact (s[0]'(by omega)).toNat_lt
        have hn255 : n < 256 := by rw [← hn]; exact (s[1]'(by omega)).toNat_lt
        rw [ha] at e0
        rw [hn] at e1
        have E0 : Hid ((nums s).getD 0 0 = (a : Int)) := e0
        have E1 : Hid ((nums s).getD 1 0 = (n : Int)) := e1
        clear e0 e1
        by_cases hb : a < nx ∨ n = 0 ∨ 64 < a + n ∨ s.size < 2 + n
        · have HP : Hid (pieces s0 = none) := hL.bad hs2 a n E0.out E1.out (by omega)
          clear hC
          have hID : Inv done wr.drew := hD _ _ hI
          by_cases b1 : (a : Int) < (nx : Int)
          · go_wp2
            go_region
            all_goals
              go_wp2
              go_ret
              exact ⟨by rw [HP.out]; rfl, done, hID, fun ps h => by rw [HP.out] at h; cases h⟩
          · by_cases b2 : n = 0
            · have b2' : ((n : Int) == 0) = true := by simp; exact b2
              go_wp2
              go_region
              all_goals
                go_wp2
                go_ret
                exact ⟨by rw [HP.out]; rfl, done, hID, fun ps h => by rw [HP.out] at h; cases h⟩
            · have b2' : ((n : Int) == 0) = false := by simp; exact b2
              by_cases b3 : 64 < (a : Int) + (n : Int)
              · go_wp2
                go_region
                all_goals
                  go_wp2
                  go_ret
                  exact ⟨by rw [HP.out]; rfl, done, hID, fun ps h => by rw [HP.out] at h; cases h⟩
              · have b4 : (s.size : Int) - 2 < (n : Int) := by omega
                go_wp2
                go_region
                all_goals
                  go_wp2
                  go_ret
                  exact ⟨by rw [HP.out]; rfl, done, hID, fun ps h => by rw [HP.out] at h; cases h⟩
        · have hL' := hL.step hs2 a n E0.out E1.out hb
          have b1 : ¬ (a : Int) < (nx : Int) := by omega
          have b2 : ((n : Int) == 0) = false := by simp; omega
          have b3 : ¬ 64 < (a : Int) + (n : Int) := by omega
          have b4 : ¬ (s.size : Int) - 2 < (n : Int) := by omega
          have hsz : (s.extract 2 (2 + n)).size = n := by rw [ByteArray.size_extract]; omega
          have hsz2 : (s.extract (2 + n) s.size).size = s.size - (2 + n) := by rw [ByteArray.size_extract]; omega
          have HC := show Hid _ from hC
          clear hC
          have hI' : Inv done wr.drew := hD _ _ hI
          go_wp2
          go_region
          all_goals
            go_wp2
            refine (HC.out done a _ _ (by rw [hsz]; omega) (by rw [hsz]; omega) hI').mono ?_
            rintro e w1 ⟨rfl, hI1⟩
            go_wp2
            go_roundw
            all_goals first
              | exact ⟨s.extract (2 + n) s.size, a + n + 1, _, rfl, by go_num, by rw [hsz2]; omega, by omega, hL', hI1⟩
              | (simp only [sizeStr]; rw [hsz2]; omega)
end Go.Proofs.Ytmnbfcmamhinbab.Dl
