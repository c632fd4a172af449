/-
  Proved here: the document's pieces (varveref03), of a body and places, is the same text as delta.tell's.
-/
import Derived.Test.YtmnbfcmamhinbabDto
namespace Go.Proofs.Ytmnbfcmamhinbab.Dl
open Go.ChangeShapes Go.WideShapes Go.ChangeAt Go.RowKit
set_option linter.unusedVariables false
set_option linter.unusedSimpArgs false
set_option maxRecDepth 20000

set_option maxHeartbeats 2000000 in
theorem rpieces_any (b : List Int) (hb : b.length = 64) (yb : Bytes b) (H : List Bool) (hl : H.length = 64) (w : World) :
    Calls Try.prog 33 #[.agg (bs b), .agg (bl H)] w fun e w' => e = .returned (.string (strOfNums (tell b H))) ∧ Below w.heap.size w w' := by
  have a0 : Row ((w.alloc (.cells (bs b) 41)).alloc (.cells (bl H) 79)) w.heap.size (bs b) 41 := (Row.new _ _ _).alloc _
  have a1 : Row ((w.alloc (.cells (bs b) 41)).alloc (.cells (bl H) 79)) (w.heap.size + 1) (bl H) 79 := by have := Row.new (w.alloc (.cells (bs b) 41)) (bl H) 79; simpa using this
  have ab : Below w.heap.size w ((w.alloc (.cells (bs b) 41)).alloc (.cells (bl H) 79)) := ((Below.refl _ _).alloc (Nat.le_refl _) _).alloc (by simp) _
  have e0 : (⟨#[]⟩ : ByteArray) = strOfNums [] := rfl
  have E0 := show Hid _ from e0
  clear e0
  go_enter Try.func33, Try.ntmps33
  go_wp2
  generalize (w.alloc (.cells (bs b) 41)).alloc (.cells (bl H) 79) = w1 at a0 a1 ab ⊢
  go_loopw [5, 6] (fun o i wr => ∃ (k a : Nat) (xs : List Int), o = .string (strOfNums xs) ∧ i = .int .i64 k ∧ k ≤ 64 ∧ Told b H k a xs ∧ Row wr w.heap.size (bs b) 41 ∧ Row wr (w.heap.size + 1) (bl H) 79 ∧ Below w.heap.size w wr) (fun _ i _ => 64 - (intOf i).toNat)
  case atStart => exact ⟨0, 0, [], by rw [← E0.out], rfl, by omega, Told.start b H, a0, a1, ab⟩
  case round =>
    clear a0 a1 ab
    obtain ⟨k, a, xs, rfl, rfl, hk, hT, r0, r1, rb⟩ := hrel
    by_cases hlt : k < 64
    · have ck := brow_cell r1 k (by omega)
      by_cases hka : k < a
      · have hT' := hT.skip hka
        have hst := hT.2.2.2.2 k (Nat.le_refl _) hka
        by_cases hH : H.getD k false = true
        · obtain ⟨h0, hp⟩ := hst hH
          have cp := brow_cell r1 (k - 1) (by omega)
          rw [hp] at cp
          rw [hH] at ck
          obtain ⟨m, rfl⟩ : ∃ m, k = m + 1 := ⟨k - 1, by omega⟩
          rw [show m + 1 - 1 = m by omega] at cp
          have h0' : 0 < (m : Int) + 1 := by omega
          go_wp2
          go_roundw
          case rel => exact ⟨m + 1 + 1, a, xs, rfl, by go_num, by omega, hT', r0, r1, rb⟩
          case measure => simp [intOf]; omega
        · have hH' : H.getD k false = false := by simpa using hH
          rw [hH'] at ck
          go_wp2
          go_roundw
          case rel => exact ⟨k + 1, a, xs, rfl, by go_num, by omega, hT', r0, r1, rb⟩
          case measure => simp [intOf]; omega
      · have eka : a = k := by have := hT.2.1; omega
        subst eka
        by_cases hH : H.getD a false = true
        · obtain ⟨hr, hT'⟩ := hT.run hl hlt hH
          rw [hH] at ck
          by_cases ha0 : 0 < (a : Int)
          · obtain ⟨m, hm⟩ : ∃ m : Nat, (a : Int) - 1 = (m : Int) := ⟨a - 1, by omega⟩
            have hpf : H.getD m false = false := by
              rcases hT.2.2.2.1 with q | q
              · omega
              · rw [show a - 1 = m by omega] at q; exact q
            have cp := brow_cell r1 m (by omega)
            rw [hpf] at cp
            have hm64 : m < 64 := by omega
            have hrle := runAt_le H a hl (by omega)
            have HAT : Hid (∀ j, j < runAt H a → H.getD (a + j) false = true) := runAt_at H a
            have HEN : Hid (H.getD (a + runAt H a) false = false) := runAt_end H a
            have hx3 : xs.length ≤ 3 * a := by obtain ⟨f, _, _, h⟩ := hT.1; exact h
            obtain ⟨n, HN⟩ : ∃ n, Hid (runAt H a = n) := ⟨_, rfl⟩
            rw [HN.out] at hrle HAT HEN hr hT'
            go_wp2
            go_loopw [7, 8, 9] (fun nn ss kk wq => ∃ c : Nat, c ≤ n ∧ nn = .int .i64 c ∧ ss = .string (strOfNums ((b.drop (a)).take c)) ∧ kk = .int .i64 ((a + c : Nat) : Int) ∧ Row wq w.heap.size (bs b) 41 ∧ Row wq (w.heap.size + 1) (bl H) 79 ∧ Below w.heap.size w wq) (fun nn _ _ _ => n - (intOf nn).toNat)
            case atStart => exact ⟨0, by omega, rfl, by rw [List.take_zero, ← E0.out], by simp, r0, r1, rb⟩
            case round =>
              clear r0 r1 rb
              obtain ⟨c, hc, rfl, rfl, rfl, r0, r1, rb⟩ := hrel
              by_cases hcn : c < n
              · have cH := brow_cell r1 (a + c) (by omega)
                rw [HAT.out c hcn] at cH
                have cB := row_cell r0 (a + c) (by omega)
                have hxb := yb.at (a + c)
                have hstep : strOfNums ((b.drop (a)).take c) ++ strOfNums [b.getD (a + c) 0] = strOfNums ((b.drop (a)).take (c + 1)) := by rw [strs_append, take_step b (a) c (by omega)]
                have hss : (strOfNums ((b.drop (a)).take c)).size = c := by rw [strOfNums_size]; simp; omega
                generalize b.getD (a + c) 0 = x at cB hstep hxb
                have hcv : (Go.convert 76 9 (.slice (some ⟨wr.heap.size, 0, none⟩) 1 1)).run Try.prog (wr.alloc (.cells #[.int .u8 x] 5)) = .ok (.string (strOfNums [x])) (wr.alloc (.cells #[.int .u8 x] 5)) := one_string wr x
                have z0 := r0.alloc (.cells #[.int .u8 x] 5)
                have z1 := r1.alloc (.cells #[.int .u8 x] 5)
                have zb := rb.alloc (Nat.le_of_lt r0.lt) (.cells #[.int .u8 x] 5)
                have h64 : ((a : Nat) : Int) + (c : Int) < 64 := by omega
                have hs1 : (strOfNums [x]).size = 1 := strOfNums_size _
                go_wp2
                go_roundw
                case rel => exact ⟨c + 1, by omega, by go_num, rfl, by go_num, z0, z1, zb⟩
                case measure => simp [intOf]; omega
              · have ecn : c = n := by omega
                subst ecn
                have hpl : (strOfNums ((b.drop (a)).take c)).size = c := by rw [strOfNums_size]; simp; omega
                have hcv : (Go.convert 76 9 (.slice (some ⟨wr.heap.size, 0, none⟩) 2 2)).run Try.prog (wr.alloc (.cells #[.int .u8 (a : Int), .int .u8 (c : Int)] 5)) = .ok (.string (strOfNums [(a : Int), (c : Int)])) (wr.alloc (.cells #[.int .u8 (a : Int), .int .u8 (c : Int)] 5)) := two_string wr a c
                have happ : strOfNums xs ++ (strOfNums [(a : Int), (c : Int)] ++ strOfNums ((b.drop (a)).take c)) = strOfNums (xs ++ (a : Int) :: (c : Int) :: (b.drop (a)).take c) := by rw [strs_append, strs_append]; rfl
                have hs2 : (strOfNums [(a : Int), (c : Int)]).size = 2 := strOfNums_size _
                have hsx : (strOfNums xs).size = xs.length := strOfNums_size _
                have z0 := r0.alloc (.cells #[.int .u8 (a : Int), .int .u8 (c : Int)] 5)
                have z1 := r1.alloc (.cells #[.int .u8 (a : Int), .int .u8 (c : Int)] 5)
                have zb := rb.alloc (Nat.le_of_lt r0.lt) (.cells #[.int .u8 (a : Int), .int .u8 (c : Int)] 5)
                by_cases h64 : a + c < 64
                · have cH := brow_cell r1 (a + c) (by omega)
                  rw [HEN.out] at cH
                  have h64' : ((a : Nat) : Int) + (c : Int) < 64 := by omega
                  go_wp2
                  go_roundw
                  case rel => exact ⟨a + 1, a + c + 1, _, rfl, by go_num, by omega, hT', z0, z1, zb⟩
                  case measure => simp [intOf]; omega
                · have h64' : ¬ ((a : Nat) : Int) + (c : Int) < 64 := by omega
                  go_wp2
                  go_roundw
                  case rel => exact ⟨a + 1, a + c + 1, _, rfl, by go_num, by omega, hT', z0, z1, zb⟩
                  case measure => simp [intOf]; omega
          · skip
            have hrle := runAt_le H a hl (by omega)
            have HAT : Hid (∀ j, j < runAt H a → H.getD (a + j) false = true) := runAt_at H a
            have HEN : Hid (H.getD (a + runAt H a) false = false) := runAt_end H a
            have hx3 : xs.length ≤ 3 * a := by obtain ⟨f, _, _, h⟩ := hT.1; exact h
            obtain ⟨n, HN⟩ : ∃ n, Hid (runAt H a = n) := ⟨_, rfl⟩
            rw [HN.out] at hrle HAT HEN hr hT'
            go_wp2
            go_loopw [7, 8, 9] (fun nn ss kk wq => ∃ c : Nat, c ≤ n ∧ nn = .int .i64 c ∧ ss = .string (strOfNums ((b.drop (a)).take c)) ∧ kk = .int .i64 ((a + c : Nat) : Int) ∧ Row wq w.heap.size (bs b) 41 ∧ Row wq (w.heap.size + 1) (bl H) 79 ∧ Below w.heap.size w wq) (fun nn _ _ _ => n - (intOf nn).toNat)
            case atStart => exact ⟨0, by omega, rfl, by rw [List.take_zero, ← E0.out], by simp, r0, r1, rb⟩
            case round =>
              clear r0 r1 rb
              obtain ⟨c, hc, rfl, rfl, rfl, r0, r1, rb⟩ := hrel
              by_cases hcn : c < n
              · have cH := brow_cell r1 (a + c) (by omega)
                rw [HAT.out c hcn] at cH
                have cB := row_cell r0 (a + c) (by omega)
                have hxb := yb.at (a + c)
                have hstep : strOfNums ((b.drop (a)).take c) ++ strOfNums [b.getD (a + c) 0] = strOfNums ((b.drop (a)).take (c + 1)) := by rw [strs_append, take_step b (a) c (by omega)]
                have hss : (strOfNums ((b.drop (a)).take c)).size = c := by rw [strOfNums_size]; simp; omega
                generalize b.getD (a + c) 0 = x at cB hstep hxb
                have hcv : (Go.convert 76 9 (.slice (some ⟨wr.heap.size, 0, none⟩) 1 1)).run Try.prog (wr.alloc (.cells #[.int .u8 x] 5)) = .ok (.string (strOfNums [x])) (wr.alloc (.cells #[.int .u8 x] 5)) := one_string wr x
                have z0 := r0.alloc (.cells #[.int .u8 x] 5)
                have z1 := r1.alloc (.cells #[.int .u8 x] 5)
                have zb := rb.alloc (Nat.le_of_lt r0.lt) (.cells #[.int .u8 x] 5)
                have h64 : ((a : Nat) : Int) + (c : Int) < 64 := by omega
                have hs1 : (strOfNums [x]).size = 1 := strOfNums_size _
                go_wp2
                go_roundw
                case rel => exact ⟨c + 1, by omega, by go_num, rfl, by go_num, z0, z1, zb⟩
                case measure => simp [intOf]; omega
              · have ecn : c = n := by omega
                subst ecn
                have hpl : (strOfNums ((b.drop (a)).take c)).size = c := by rw [strOfNums_size]; simp; omega
                have hcv : (Go.convert 76 9 (.slice (some ⟨wr.heap.size, 0, none⟩) 2 2)).run Try.prog (wr.alloc (.cells #[.int .u8 (a : Int), .int .u8 (c : Int)] 5)) = .ok (.string (strOfNums [(a : Int), (c : Int)])) (wr.alloc (.cells #[.int .u8 (a : Int), .int .u8 (c : Int)] 5)) := two_string wr a c
                have happ : strOfNums xs ++ (strOfNums [(a : Int), (c : Int)] ++ strOfNums ((b.drop (a)).take c)) = strOfNums (xs ++ (a : Int) :: (c : Int) :: (b.drop (a)).take c) := by rw [strs_append, strs_append]; rfl
                have hs2 : (strOfNums [(a : Int), (c : Int)]).size = 2 := strOfNums_size _
                have hsx : (strOfNums xs).size = xs.length := strOfNums_size _
                have z0 := r0.alloc (.cells #[.int .u8 (a : Int), .int .u8 (c : Int)] 5)
                have z1 := r1.alloc (.cells #[.int .u8 (a : Int), .int .u8 (c : Int)] 5)
                have zb := rb.alloc (Nat.le_of_lt r0.lt) (.cells #[.int .u8 (a : Int), .int .u8 (c : Int)] 5)
                by_cases h64 : a + c < 64
                · have cH := brow_cell r1 (a + c) (by omega)
                  rw [HEN.out] at cH
                  have h64' : ((a : Nat) : Int) + (c : Int) < 64 := by omega
                  go_wp2
                  go_roundw
                  case rel => exact ⟨a + 1, a + c + 1, _, rfl, by go_num, by omega, hT', z0, z1, zb⟩
                  case measure => simp [intOf]; omega
                · have h64' : ¬ ((a : Nat) : Int) + (c : Int) < 64 := by omega
                  go_wp2
                  go_roundw
                  case rel => exact ⟨a + 1, a + c + 1, _, rfl, by go_num, by omega, hT', z0, z1, zb⟩
                  case measure => simp [intOf]; omega
        · have hH' : H.getD a false = false := by simpa using hH
          have hT' := hT.none hlt hH'
          rw [hH'] at ck
          go_wp2
          go_roundw
          case rel => exact ⟨a + 1, a + 1, xs, rfl, by go_num, by omega, hT', r0, r1, rb⟩
          case measure => simp [intOf]; omega
    · have e4 : k = 64 := by omega
      have he : Hid (xs = tell b H) := hT.1.stop (by have := hT.2.1; omega)
      have hlt' : ¬ (k : Int) < 64 := by omega
      go_wp2
      go_ret
      exact ⟨by rw [← he.out]; rfl, rb⟩
end Go.Proofs.Ytmnbfcmamhinbab.Dl
