/-
  Proved here: where room.Refs says that records are.
-/
import Derived.Test.YtddhjkgefninbaaRfl
namespace Go.Proofs.Ytddhjkgefninbaa
open Go.ChangeShapes Go.WideShapes Go.ChangeAt Go.RowKit
set_option linter.unusedVariables false
set_option linter.unusedSimpArgs false
set_option maxRecDepth 20000

/-- Where the records of a page are. -/
def refsO (k : Nat) (os : List O) : List Rf.O := (os.zipIdx.filter fun x => x.1.live).map fun x => ⟨(k : Int) + 1, (x.2 : Int) % 256⟩
/-- Where all records are. -/
def refsP (ps : List Pge) : List Rf.O := ps.zipIdx.flatMap fun x => refsO x.2 x.1.os
theorem refsO_succ (k : Nat) (os : List O) (j : Nat) (o : O) (h : os[j]? = some o) : refsO k (os.take (j + 1)) = refsO k (os.take j) ++ if o.live then [⟨(k : Int) + 1, (j : Int) % 256⟩] else [] := by
  have hj := (List.getElem?_eq_some_iff.1 h).1
  unfold refsO
  rw [List.take_add_one, h, List.zipIdx_append, List.filter_append, List.map_append]
  congr 1
  cases hl : o.live <;> simp [hl, Nat.min_eq_left (Nat.le_of_lt hj)]
theorem refsP_succ (ps : List Pge) (k : Nat) (p : Pge) (h : ps[k]? = some p) : refsP (ps.take (k + 1)) = refsP (ps.take k) ++ refsO k p.os := by
  have hj := (List.getElem?_eq_some_iff.1 h).1
  unfold refsP
  rw [List.take_add_one, h, List.zipIdx_append, List.flatMap_append]
  congr 1
  simp [Nat.min_eq_left (Nat.le_of_lt hj)]
theorem refsO_le (k : Nat) (os : List O) : (refsO k os).length ≤ os.length := by
  unfold refsO
  rw [List.length_map]
  exact Nat.le_trans (List.length_filter_le _ _) (by simp)
theorem refsP_le (ps : List Pge) (hl : ∀ p ∈ ps, p.os.length ≤ 1000) : ∀ k, k ≤ ps.length → (refsP (ps.take k)).length ≤ k * 1000
  | 0, _ => by simp [refsP]
  | k + 1, h => by
    obtain ⟨p, hp⟩ : ∃ p, ps[k]? = some p := ⟨ps[k], List.getElem?_eq_getElem (by omega)⟩
    have ih := refsP_le ps hl k (by omega)
    rw [refsP_succ ps k p hp, List.length_append]
    have h1 := refsO_le k p.os
    have := hl p (List.mem_of_getElem? hp)
    omega
theorem refs_nil (w : World) : Calls Try.prog 13 #[.pointer none] w fun e w' => e = .returned (.slice none 0 0) ∧ w' = w := by
  go_enter Try.func13, Try.ntmps13
  go_wp2
  go_ret
  exact ⟨rfl, rfl⟩
def Refd (w : World) (ps : List Pge) (e : Ending) (w' : World) : Prop := ∃ v, e = .returned v ∧ Rf.Own w' w.heap.size v (refsP ps) ∧ Below w.heap.size w w'
set_option maxHeartbeats 4000000 in
theorem refs_any {w : World} {g a : Nat} {ps : List Pge} {l : Nat} (c : RAt w g a ps l) :
    Calls Try.prog 13 #[.pointer (some ⟨g, 0, none⟩)] w fun e w' => Refd w ps e w' := by
  have c0 := row_at c.room 0 _ rfl
  have HC : Hid _ := c
  have HL : Hid _ := refsP_le ps c.len
  have hsm := c.small
  obtain ⟨n, HN⟩ : ∃ n, Hid (ps.length = n) := ⟨_, rfl⟩
  rw [HN.out] at c0 hsm HL
  have hz := zero33
  have hz2 := zero50
  clear c
  go_enter Try.func13, Try.ntmps13
  go_wp2
  go_loopw [3, 15] (fun c d wr => ∃ (k : Nat), d = .int .i64 k ∧ k ≤ n ∧ Rf.Own wr w.heap.size c (refsP (ps.take k)) ∧ Below w.heap.size w wr) (fun _ d _ => n - (intOf d).toNat)
  case atStart => exact ⟨0, rfl, by omega, ⟨rfl, Or.inl ⟨rfl, rfl⟩⟩, Below.refl _ _⟩
  case round =>
    obtain ⟨k, rfl, hk, own, rb⟩ := hrel
    by_cases hkn : k < n
    · have hkn' : (k : Int) < (n : Int) := by omega
      obtain ⟨p, hp⟩ : ∃ p, ps[k]? = some p := ⟨ps[k]'(by rw [HN.out]; exact hkn), List.getElem?_eq_getElem (by rw [HN.out]; exact hkn)⟩
      have hm := List.mem_of_getElem? hp
      have c1 := HC.out.below rb
      have hcell := c1.at hp
      have hs := refsP_succ ps k p hp
      have hb := HL.out k hk
      have hlen := HC.out.len p hm
      have ho := (HC.out.olds p hm).olds
      obtain ⟨lsn, v, os⟩ := p
      simp only at hcell hs hlen ho
      obtain ⟨oa, cap, rfl, hcs⟩ := ho.hold
      have HCS : Hid _ := hcs
      obtain ⟨m, HM⟩ : ∃ m, Hid (os.length = m) := ⟨_, rfl⟩
      rw [HM.out] at HCS hlen ho hcell
      have HS : Hid _ := hs
      clear hm c1 hs hcs
      obtain ⟨G, HG⟩ : ∃ G : List Rf.O, Hid (refsP (ps.take k) = G) := ⟨_, rfl⟩
      rw [HG.out] at own hb HS
      have r0 : Row (wr.alloc (.cells #[.int .u64 0, .slice none 0 0] 33)) wr.heap.size #[.int .u64 0, .slice none 0 0] 33 := Row.new _ _ _
      have r1 := r0.set #[.int .u64 lsn, .slice oa m cap]
      have b1 : Below wr.heap.size wr ((wr.alloc (.cells #[.int .u64 0, .slice none 0 0] 33)).setRow wr.heap.size #[.int .u64 lsn, .slice oa m cap]) := below_setRow ((Below.refl _ _).alloc (Nat.le_refl _) _) (Nat.le_refl _) _
      have b2 := rb.trans (b1.mono rb.size)
      have own1 := own.keep b1
      have d1 := row_at r1 1 _ rfl
      have tl : Hid (1 = 1) := rfl
      have ts : Hid (1 = 1) := rfl
      have w1 : IntKind.u16.wrap (k : Int) = k := by rw [IntKind.wrap_u16]; omega
      have w2 : IntKind.u16.wrap ((k : Int) + 1) = (k : Int) + 1 := by rw [IntKind.wrap_u16]; omega
      go_upto_region 7 with (first
        | (have hh := tl; clear hh tl; refine wpList_load_any rfl 33 (.tmp 18) rfl ⟨a, k * 2, none⟩ rfl [.int .u64 lsn, .slice oa m cap] _ hcell Try.underlying33 rfl size33 ?_)
        | (have hh := ts; clear hh ts; refine store_cells rfl 33 (.tmp 5) (.tmp 19) rfl wr.heap.size #[.int .u64 lsn, .slice oa m cap] rfl rfl 33 _ r0 2 size33 rfl rfl (by simp [Value.oneCell']) ?_))
      generalize (wr.alloc (.cells #[.int .u64 0, .slice none 0 0] 33)).setRow wr.heap.size #[.int .u64 lsn, .slice oa m cap] = W1 at own1 b2 d1 ⊢
      generalize wr.heap.size = X1 at d1 ⊢
      clear own rb hcell r0 r1 b1 ho
      go_wp2
      go_loopw [3, 23] (fun c d wx => ∃ (j : Nat), d = .int .i64 j ∧ j ≤ m ∧ Rf.Own wx w.heap.size c (G ++ refsO k (os.take j)) ∧ Below w.heap.size w wx) (fun _ d _ => m - (intOf d).toNat)
      case atStart => exact ⟨0, rfl, by omega, by simpa [refsO] using own1, b2⟩
      case round =>
        clear own1 b2 d1
        obtain ⟨j, rfl, hj, own, rb⟩ := hrel
        by_cases hjm : j < m
        · have hjm' : (j : Int) < (m : Int) := by omega
          obtain ⟨A, b, pg, tt, np, ns, dl, rfl, he, hcell⟩ := HCS.out j hjm
          have hcw : ∀ i u, [Value.bool b, .int .u16 pg, .int .u32 tt, .int .u16 np, .int .u8 ns, .string dl][i]? = some u → wr.cell? ((A.add (j * 6)).add i) = some u := fun i u hi => cell_keep (hcell i u hi) rb
          have hs := refsO_succ k os j _ he
          have hle := refsO_le k (os.take j)
          have hle2 : (os.take j).length ≤ j := by simp; omega
          simp only at hs
          have z0 : Row (wr.alloc (.cells #[.bool false, .int .u16 0, .int .u32 0, .int .u16 0, .int .u8 0, .string ByteArray.empty] 50)) wr.heap.size #[.bool false, .int .u16 0, .int .u32 0, .int .u16 0, .int .u8 0, .string ByteArray.empty] 50 := Row.new _ _ _
          have z1 := z0.set #[.bool b, .int .u16 pg, .int .u32 tt, .int .u16 np, .int .u8 ns, .string dl]
          have e0 := row_at z1 0 _ rfl
          have b1 : Below wr.heap.size wr ((wr.alloc (.cells #[.bool false, .int .u16 0, .int .u32 0, .int .u16 0, .int .u8 0, .string ByteArray.empty] 50)).setRow wr.heap.size #[.bool b, .int .u16 pg, .int .u32 tt, .int .u16 np, .int .u8 ns, .string dl]) := below_setRow ((Below.refl _ _).alloc (Nat.le_refl _) _) (Nat.le_refl _) _
          have b3 := rb.trans (b1.mono rb.size)
          have own2 := own.keep b1
          have w3 : IntKind.u8.wrap (j : Int) = (j : Int) % 256 := IntKind.wrap_u8 _
          have tl : Hid (1 = 1) := rfl
          have ts : Hid (1 = 1) := rfl
          clear hcell
          have HQ : Hid _ := hs
          clear hs
          cases b
          · have HE : Hid (refsO k (os.take (j + 1)) = refsO k (os.take j)) := by show _ = _; rw [HQ.out]; simp
            rw [← HE.out] at own2
            clear HQ
            go_wp2_with (first
              | (have hh := tl; clear hh tl; refine wpList_load_any rfl 50 (.tmp 26) rfl (A.add (j * 6)) rfl [.bool false, .int .u16 pg, .int .u32 tt, .int .u16 np, .int .u8 ns, .string dl] _ hcw Try.underlying50 rfl size50 ?_)
              | (have hh := ts; clear hh ts; refine store_cells rfl 50 (.tmp 7) (.tmp 27) rfl wr.heap.size #[.bool false, .int .u16 pg, .int .u32 tt, .int .u16 np, .int .u8 ns, .string dl] rfl rfl 50 _ z0 6 size50 rfl rfl (by simp [Value.oneCell']) ?_))
            go_roundw
            case rel => exact ⟨j + 1, by go_num, by omega, own2, b3⟩
            case measure => simp [intOf]; omega
          · have HE : Hid (G ++ refsO k (os.take (j + 1)) = (G ++ refsO k (os.take j)) ++ [⟨(k : Int) + 1, (j : Int) % 256⟩]) := by show _ = _; rw [HQ.out, List.append_assoc]; simp
            clear HQ
            go_upto_region 11 with (first
              | (have hh := tl; clear hh tl; refine wpList_load_any rfl 50 (.tmp 26) rfl (A.add (j * 6)) rfl [.bool true, .int .u16 pg, .int .u32 tt, .int .u16 np, .int .u8 ns, .string dl] _ hcw Try.underlying50 rfl size50 ?_)
              | (have hh := ts; clear hh ts; refine store_cells rfl 50 (.tmp 7) (.tmp 27) rfl wr.heap.size #[.bool true, .int .u16 pg, .int .u32 tt, .int .u16 np, .int .u8 ns, .string dl] rfl rfl 50 _ z0 6 size50 rfl rfl (by simp [Value.oneCell']) ?_))
            clear hcw z0 z1 e0 own rb b1
            generalize (wr.alloc (.cells #[.bool false, .int .u16 0, .int .u32 0, .int .u16 0, .int .u8 0, .string ByteArray.empty] 50)).setRow wr.heap.size #[.bool true, .int .u16 pg, .int .u32 tt, .int .u16 np, .int .u8 ns, .string dl] = W2 at own2 b3 ⊢
            generalize wr.heap.size = X2
            have HR : Hid (∀ ty, ∃ v' w', (Builtin.append_ #[42, 42] ty #[u3, .slice (some ⟨W2.heap.size, 0, none⟩) 1 1]).run Try.prog (W2.alloc (.cells #[.int .u16 ((k : Int) + 1), .int .u8 ((j : Int) % 256)] 48)) = .ok v' w' ∧ (Rf.Own w' w.heap.size v' (G ++ refsO k (os.take (j + 1))) ∧ Below w.heap.size w w')) := fun ty => by
              have own3 := own2.alloc (.cells #[.int .u16 ((k : Int) + 1), .int .u8 ((j : Int) % 256)] 48)
              have b4 : Below w.heap.size w (W2.alloc (.cells #[.int .u16 ((k : Int) + 1), .int .u8 ((j : Int) % 256)] 48)) := b3.alloc b3.size _
              obtain ⟨v', w', h1, h2, h3⟩ := Rf.Own.snocP own3 ty W2.heap.size ⟨(k : Int) + 1, (j : Int) % 256⟩ (Row.new _ _ _) b4.size (by rw [List.length_append]; omega)
              refine ⟨v', w', h1, by rw [HE.out]; exact h2, b4.grown h3 b4.size (fun k hk => (World.ownsRow.lt own3 k hk).1)⟩
            clear own2 HE
            go_wp2_with (at_builtin; refine Rf.wpList_copy rfl (.tmp 30) (.tmp 37) 42 rfl _ _ rfl rfl (fun ty => HR.out ty) ?_; clear HR; rintro v4 w4 ⟨own4, rb4⟩)
            go_roundw
            case rel => exact ⟨j + 1, by go_num, by omega, own4, rb4⟩
            case measure => simp [intOf]; omega
        · have hjm' : ¬ (j : Int) < (m : Int) := by omega
          obtain rfl : j = m := by omega
          have ht : os.take j = os := by rw [← HM.out, List.take_length]
          rw [ht, ← HS.out] at own
          go_wp2
          go_roundw
          case rel => exact ⟨k + 1, by go_num, by omega, own, rb⟩
          case measure => simp [intOf]; omega
    · have e : k = n := by omega
      subst e
      have hkn' : ¬ (k : Int) < (k : Int) := by omega
      have ht : ps.take k = ps := by rw [← HN.out, List.take_length]
      rw [ht] at own
      obtain ⟨oa5, cap5, hv5⟩ := own.form
      subst hv5
      go_wp2
      go_ret
      exact ⟨_, rfl, own, rb⟩
end Go.Proofs.Ytddhjkgefninbaa
