/-
  Proved here: delta.Make is the text of the places at which two bodies differ, with those that stand between two such places, one or two of them.
-/
import Derived.Test.YtmnbfcmamhinbabDtl
namespace Go.Proofs.Ytmnbfcmamhinbab.Dl
open Go.ChangeShapes Go.WideShapes Go.ChangeAt Go.RowKit
set_option linter.unusedVariables false
set_option linter.unusedSimpArgs false
set_option maxRecDepth 20000

/-- Where two bodies differ. -/
def dif (x y : List Int) (j : Nat) : Bool := !decide (x.getD j 0 = y.getD j 0)
/-- The last place ahead of k at which they differ, -1 if there is none. -/
def lastD (x y : List Int) : Nat → Int
  | 0 => -1
  | k + 1 => if dif x y k then (k : Int) else lastD x y k
theorem lastD_range (x y : List Int) : ∀ k, -1 ≤ lastD x y k ∧ lastD x y k < k
  | 0 => by simp [lastD]
  | k + 1 => by have := lastD_range x y k; unfold lastD; split <;> omega
/-- The places that Make has taken in when it has come to k. -/
def hasD (x y : List Int) : Nat → List Bool
  | 0 => fs
  | k + 1 => if dif x y k then addP (if 0 ≤ lastD x y k ∧ (k : Int) - lastD x y k - 1 ≤ 2 then addP (hasD x y k) (lastD x y k + 1).toNat ((k : Int) - lastD x y k - 1).toNat else hasD x y k) k 1 else hasD x y k
theorem hasD_length (x y : List Int) : ∀ k, (hasD x y k).length = 64
  | 0 => by simp [hasD, fs]
  | k + 1 => by unfold hasD; split; · exact addP_length _ _ _
                · exact hasD_length x y k

theorem add_at (g : Nat) (H : List Bool) (hl : H.length = 64) (a n : Nat) (h : a + n ≤ 64) (i j : Int) (hi : i = a) (hj : j = n) (R : List Bool) (hR : addP H a n = R) (w : World) (r : Row w g (bl H) 84) :
    Calls Try.prog 37 #[.pointer (some ⟨g, 0, none⟩), .int .i64 i, .int .i64 j] w fun e w' => e = .returned (.tuple #[]) ∧ Row w' g (bl R) 84 ∧ Turned g w w' := by
  subst hi; subst hj; subst hR; exact add_any g H hl a n h w r

theorem make_any (x y : List Int) (hx : x.length = 64) (hy : y.length = 64) (w : World) :
    Calls Try.prog 32 #[.agg (bs x), .agg (bs y)] w fun e w' => e = .returned (.string (strOfNums (tell y (hasD x y 64)))) ∧ Below w.heap.size w w' := by
  have hz := zero84
  go_enter Try.func32, Try.ntmps32
  go_wp2
  go_loopw [6, 8] (fun l i wr => ∃ k : Nat, k ≤ 64 ∧ i = .int .i64 k ∧ l = .int .i64 (lastD x y k) ∧ Row wr w.heap.size (bs x) 42 ∧ Row wr (w.heap.size + 1) (bs y) 42 ∧ Row wr (w.heap.size + 1 + 1) (bl (hasD x y k)) 84 ∧ Below w.heap.size w wr) (fun _ i _ => 64 - (intOf i).toNat)
  case atStart =>
    refine ⟨0, by omega, rfl, rfl, ((Row.new _ _ _).alloc _).alloc _, ?_, ?_, ((((Below.refl _ _).alloc (Nat.le_refl _) _).alloc (by simp) _).alloc (by simp; omega) _)⟩
    · have := (Row.new (w.alloc (Obj.cells (bs x) 42)) (bs y) 42).alloc (Obj.cells (bl fs) 84); simpa using this
    · have := (Row.new ((w.alloc (Obj.cells (bs x) 42)).alloc (Obj.cells (bs y) 42)) (bl fs) 84); simpa [hasD] using this
  case round =>
    obtain ⟨k, hk, rfl, rfl, r0, r1, r2, rb⟩ := hrel
    by_cases hlt : k < 64
    · have c0 := row_cell (w := wr.drew) (t := 42) r0 k (by omega)
      have c1 := row_cell (w := wr.drew) (t := 42) r1 k (by omega)
      have hlr := lastD_range x y k
      have hHl := hasD_length x y k
      have hd : dif x y k = !decide (x.getD k 0 = y.getD k 0) := rfl
      have hn : hasD x y (k + 1) = if dif x y k then addP (if 0 ≤ lastD x y k ∧ (k : Int) - lastD x y k - 1 ≤ 2 then addP (hasD x y k) (lastD x y k + 1).toNat ((k : Int) - lastD x y k - 1).toNat else hasD x y k) k 1 else hasD x y k := rfl
      have hm : lastD x y (k + 1) = if dif x y k then (k : Int) else lastD x y k := rfl
      obtain ⟨X, HX⟩ : ∃ X, Hid (x.getD k 0 = X) := ⟨_, rfl⟩
      obtain ⟨Y, HY⟩ : ∃ Y, Hid (y.getD k 0 = Y) := ⟨_, rfl⟩
      obtain ⟨H, HH⟩ : ∃ H, Hid (hasD x y k = H) := ⟨_, rfl⟩
      obtain ⟨l, HL⟩ : ∃ l, Hid (lastD x y k = l) := ⟨_, rfl⟩
      obtain ⟨H', HH'⟩ : ∃ H', Hid (hasD x y (k + 1) = H') := ⟨_, rfl⟩
      obtain ⟨l', HL'⟩ : ∃ l', Hid (lastD x y (k + 1) = l') := ⟨_, rfl⟩
      rw [HX.out] at c0 hd
      rw [HY.out] at c1 hd
      rw [HH.out] at r2 hHl hn
      rw [HL.out] at hlr hn hm ⊢
      rw [HH'.out] at hn
      rw [HL'.out] at hm
      by_cases hXY : X = Y
      · have hd' : dif x y k = false := by rw [hd, decide_eq_true hXY]; rfl
        rw [hd'] at hn hm
        have hn' : H' = H := hn
        have hm' : l' = l := hm
        clear hn hm hd hd'
        go_wp2
        go_region
        all_goals go_wp2
        all_goals go_roundw
        all_goals first
          | exact ⟨k + 1, by omega, by go_num, by rw [HL'.out, hm'], r0, r1, by rw [HH'.out, hn']; exact r2, rb.drew⟩
          | (simp [intOf]; omega)
      · have hd' : dif x y k = true := by rw [hd, decide_eq_false hXY]; rfl
        rw [hd'] at hn hm
        simp only [if_true] at hn hm
        clear hd hd'
        by_cases hg : 0 ≤ l ∧ (k : Int) - l - 1 ≤ 2
        · rw [if_pos hg] at hn
          have hg1 := hg.1
          have hg2 := hg.2
          obtain ⟨a, HA⟩ : ∃ a, Hid ((l + 1).toNat = a) := ⟨_, rfl⟩
          obtain ⟨n, HN⟩ : ∃ n, Hid (((k : Int) - l - 1).toNat = n) := ⟨_, rfl⟩
          rw [HA.out, HN.out] at hn
          obtain ⟨R, HR⟩ : ∃ R, Hid (addP H a n = R) := ⟨_, rfl⟩
          have hRl : R.length = 64 := by rw [← HR.out]; exact addP_length _ _ _
          have HR2 : Hid (addP R k 1 = H') := by show _ = _; rw [← HR.out]; exact hn.symm
          have han : a + n ≤ 64 := by have := HA.out; have := HN.out; omega
          have hia : Hid (l + 1 = (a : Int)) := by have := HA.out; show _ = _; omega
          have hin : Hid ((k : Int) - l - 1 = (n : Int)) := by have := HN.out; show _ = _; omega
          have l2 : w.heap.size + 1 + 1 < wr.heap.size := r2.lt
          have r2d : Row wr.drew (w.heap.size + 1 + 1) (bl H) 84 := r2
          have r1d : Row wr.drew (w.heap.size + 1) (bs y) 42 := r1
          have r0d : Row wr.drew w.heap.size (bs x) 42 := r0
          have rbd : Below w.heap.size w wr.drew := rb.drew
          clear hn hg r0 r1 r2 rb
          go_wp2
          go_region
          all_goals
            go_wp2_with (first
              | (go_at_call 37; refine (add_at (w.heap.size + 1 + 1) H hHl a n han _ _ hia.out hin.out R HR.out _ r2d).mono ?_; rintro e w1 ⟨rfl, q2, qt⟩
                 have q1 := (Row.turned r1d qt (by omega))
                 have q0 := (Row.turned r0d qt (by omega))
                 have qb := rbd.trans (qt.below (by omega))
                 clear r2d r1d r0d rbd qt)
              | (go_at_call 37; refine (add_at (w.heap.size + 1 + 1) R hRl k 1 (by omega) _ _ rfl rfl H' HR2.out _ q2).mono ?_; rintro e w2 ⟨rfl, z2, zt⟩
                 have z1 := (Row.turned q1 zt (by omega))
                 have z0 := (Row.turned q0 zt (by omega))
                 have zb := qb.trans (zt.below (by omega))
                 clear q2 q1 q0 qb zt))
            go_roundw
            all_goals first
              | exact ⟨k + 1, by omega, by go_num, by rw [HL'.out, hm], z0, z1, by rw [HH'.out]; exact z2, zb⟩
              | (simp [intOf]; omega)
        · rw [if_neg hg] at hn
          have HR2 : Hid (addP H k 1 = H') := hn.symm
          have r2d : Row wr.drew (w.heap.size + 1 + 1) (bl H) 84 := r2
          have r1d : Row wr.drew (w.heap.size + 1) (bs y) 42 := r1
          have r0d : Row wr.drew w.heap.size (bs x) 42 := r0
          have rbd : Below w.heap.size w wr.drew := rb.drew
          clear hn r0 r1 r2 rb
          by_cases hg1 : 0 ≤ l
          · have hg2 : ¬ (k : Int) - l - 1 ≤ 2 := fun q => hg ⟨hg1, q⟩
            clear hg
            go_wp2
            go_region
            all_goals
              go_wp2_with (first
                | (go_at_call 37; refine (add_at (w.heap.size + 1 + 1) H hHl k 1 (by omega) _ _ rfl rfl H' HR2.out _ r2d).mono ?_; rintro e w2 ⟨rfl, z2, zt⟩
                   have z1 := (Row.turned r1d zt (by omega))
                   have z0 := (Row.turned r0d zt (by omega))
                   have zb := rbd.trans (zt.below (by omega))
                   clear r2d r1d r0d rbd zt))
              go_roundw
              all_goals first
                | exact ⟨k + 1, by omega, by go_num, by rw [HL'.out, hm], z0, z1, by rw [HH'.out]; exact z2, zb⟩
                | (simp [intOf]; omega)
          · clear hg
            go_wp2
            go_region
            all_goals
              go_wp2_with (first
                | (go_at_call 37; refine (add_at (w.heap.size + 1 + 1) H hHl k 1 (by omega) _ _ rfl rfl H' HR2.out _ r2d).mono ?_; rintro e w2 ⟨rfl, z2, zt⟩
                   have z1 := (Row.turned r1d zt (by omega))
                   have z0 := (Row.turned r0d zt (by omega))
                   have zb := rbd.trans (zt.below (by omega))
                   clear r2d r1d r0d rbd zt))
              go_roundw
              all_goals first
                | exact ⟨k + 1, by omega, by go_num, by rw [HL'.out, hm], z0, z1, by rw [HH'.out]; exact z2, zb⟩
                | (simp [intOf]; omega)
    · have e : k = 64 := by omega
      subst e
      have hHl := hasD_length x y 64
      obtain ⟨H, HH⟩ : ∃ H, Hid (hasD x y 64 = H) := ⟨_, rfl⟩
      rw [HH.out] at r2 hHl
      go_wp2_with (first
        | (refine load_row rfl 42 (.tmp 3) rfl (w.heap.size + 1) rfl 42 (bs y) r1 64 5 Try.underlying42 size42 (by rw [bs_size, hy]) ?_)
        | (refine load_row rfl 84 (.tmp 5) rfl (w.heap.size + 1 + 1) rfl 84 (bl H) r2 64 4 Try.underlying84 size84 (by rw [bl_size, hHl]) ?_)
        | (go_at_call 38; refine (tell_any y hy H hHl _).mono ?_; rintro e wz ⟨rfl, hzb⟩))
      go_ret
      exact ⟨by rw [HH.out]; rfl, rb.trans (hzb.mono (Nat.le_of_lt r0.lt))⟩
end Go.Proofs.Ytmnbfcmamhinbab.Dl
