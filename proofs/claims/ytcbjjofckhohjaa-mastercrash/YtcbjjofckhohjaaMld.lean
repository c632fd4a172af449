/-
  Proved here: master.Load: the newer one of two masters, and where it stands.
-/
import Derived.Test.YtcbjjofckhohjaaMst
namespace Go.Proofs.Ytcbjjofckhohjaa
open Go.ChangeShapes Go.WideShapes Go.ChangeAt Go.RowKit
set_option linter.unusedVariables false
set_option linter.unusedSimpArgs false
set_option maxRecDepth 20000

/-- What was found in the first blocks: a master, where it stands, and whether there is one. -/
def ldS (bk : Nat → List Int) : Nat → M × Int × Bool
  | 0 => (zm, 0, false)
  | k + 1 => if isM (bk k) && (!(ldS bk k).2.2 || decide ((ldS bk k).1.seq < (gotM (bk k)).seq)) then (gotM (bk k), (k : Int), true) else ldS bk k
/-- What Load answers. -/
def ldR (bk : Nat → List Int) (ek : Nat → Int) : M × Int × Int :=
  if ek 0 ≠ 0 then (zm, 0, ek 0) else if ek 1 ≠ 0 then (zm, 0, ek 1) else if (ldS bk 2).2.2 then ((ldS bk 2).1, (ldS bk 2).2.1, 0) else (zm, 0, 2)
def ldQ (ek : Nat → Int) : Nat := if ek 0 ≠ 0 then 1 else 2
set_option maxHeartbeats 4000000 in
theorem load_walk (p : Value) (bk : Nat → List Int) (ek : Nat → Int) (hl : ∀ k, k < 2 → (bk k).length = 256 ∧ Bytes (bk k)) (w : World) (F : Nat → Prop) (hF : ∀ k, F k → k < w.heap.size) (Q : Nat → World → Prop)
    (hQ : ∀ i wa wb, Q i wa → Off (fun k => w.heap.size ≤ k) wa wb → w.heap.size ≤ wa.heap.size → Q i wb) (h0 : Q 0 w)
    (hR : ∀ k, k < 2 → (∀ j, j < k → ek j = 0) → ∀ wa, Q k wa → Calls Try.prog 35 #[p, .int .i64 k] wa fun e w' => e = .returned (.tuple #[.agg (bs (bk k)), .int .i64 (ek k)]) ∧ Q (k + 1) w' ∧ Off F wa w') :
    Calls Try.prog 19 #[p] w fun e w' => e = .returned (.tuple #[.agg (mcells (ldR bk ek).1), .int .i64 (ldR bk ek).2.1, .int .i64 (ldR bk ek).2.2]) ∧ Q (ldQ ek) w' := by
  have HKE : Hid (∀ k, k < 2 → (∀ j, j < k → ek j = 0) → ek k ≠ 0 → ldR bk ek = (zm, 0, ek k) ∧ ldQ ek = k + 1) := fun k hk hj he => by
    unfold ldR ldQ
    match k, hk with
    | 0, _ => rw [if_pos he, if_pos he]; exact ⟨rfl, rfl⟩
    | 1, _ => have z := hj 0 (by omega); rw [if_neg (by simp [z]), if_pos he, if_neg (by simp [z])]; exact ⟨rfl, rfl⟩
  have HKN : Hid ((∀ j, j < 2 → ek j = 0) → ldR bk ek = (if (ldS bk 2).2.2 then ((ldS bk 2).1, (ldS bk 2).2.1, 0) else (zm, 0, 2)) ∧ ldQ ek = 2) := fun hj => by
    unfold ldR ldQ
    have z := hj 0 (by omega)
    have z1 := hj 1 (by omega)
    simp [z, z1]
  generalize hRR : ldR bk ek = RR at HKE HKN ⊢
  generalize hQQ : ldQ ek = QQ at HKE HKN ⊢
  clear hRR hQQ
  have hz := zero27
  have hz2 := zero29
  have r0 : Row ((w.alloc (.cells #[.int .u64 0, .int .u32 0, .int .u32 0, .int .u64 0, .int .u32 0, .int .i64 0, .int .i64 0, .int .i64 0, .int .u32 0] 27)).alloc (.cells #[.int .u64 0, .int .u32 0, .int .u32 0, .int .u64 0, .int .u32 0, .int .i64 0, .int .i64 0, .int .i64 0, .int .u32 0] 27)) w.heap.size #[.int .u64 0, .int .u32 0, .int .u32 0, .int .u64 0, .int .u32 0, .int .i64 0, .int .i64 0, .int .i64 0, .int .u32 0] 27 := (Row.new _ _ _).alloc _
  have r1 : Row ((w.alloc (.cells #[.int .u64 0, .int .u32 0, .int .u32 0, .int .u64 0, .int .u32 0, .int .i64 0, .int .i64 0, .int .i64 0, .int .u32 0] 27)).alloc (.cells #[.int .u64 0, .int .u32 0, .int .u32 0, .int .u64 0, .int .u32 0, .int .i64 0, .int .i64 0, .int .i64 0, .int .u32 0] 27)) (w.heap.size + 1) #[.int .u64 0, .int .u32 0, .int .u32 0, .int .u64 0, .int .u32 0, .int .i64 0, .int .i64 0, .int .i64 0, .int .u32 0] 27 := by have := Row.new (w.alloc (.cells #[.int .u64 0, .int .u32 0, .int .u32 0, .int .u64 0, .int .u32 0, .int .i64 0, .int .i64 0, .int .i64 0, .int .u32 0] 27)) #[.int .u64 0, .int .u32 0, .int .u32 0, .int .u64 0, .int .u32 0, .int .i64 0, .int .i64 0, .int .i64 0, .int .u32 0] 27; simpa using this
  have hq := hQ 0 w ((w.alloc (.cells #[.int .u64 0, .int .u32 0, .int .u32 0, .int .u64 0, .int .u32 0, .int .i64 0, .int .i64 0, .int .i64 0, .int .u32 0] 27)).alloc (.cells #[.int .u64 0, .int .u32 0, .int .u32 0, .int .u64 0, .int .u32 0, .int .i64 0, .int .i64 0, .int .i64 0, .int .u32 0] 27)) h0 (Off.of_below (((Below.refl _ _).alloc (Nat.le_refl _) _).alloc (by simp) _)) (Nat.le_refl _)
  have hs : w.heap.size + 2 ≤ ((w.alloc (.cells #[.int .u64 0, .int .u32 0, .int .u32 0, .int .u64 0, .int .u32 0, .int .i64 0, .int .i64 0, .int .i64 0, .int .u32 0] 27)).alloc (.cells #[.int .u64 0, .int .u32 0, .int .u32 0, .int .u64 0, .int .u32 0, .int .i64 0, .int .i64 0, .int .i64 0, .int .u32 0] 27)).heap.size := by simp
  go_enter Try.func19, Try.ntmps19
  go_upto_region 4 with fail
  show Code.wp _ _ _ _ ((w.alloc (.cells #[.int .u64 0, .int .u32 0, .int .u32 0, .int .u64 0, .int .u32 0, .int .i64 0, .int .i64 0, .int .i64 0, .int .u32 0] 27)).alloc (.cells #[.int .u64 0, .int .u32 0, .int .u32 0, .int .u64 0, .int .u32 0, .int .i64 0, .int .i64 0, .int .i64 0, .int .u32 0] 27))
  generalize (w.alloc (.cells #[.int .u64 0, .int .u32 0, .int .u32 0, .int .u64 0, .int .u32 0, .int .i64 0, .int .i64 0, .int .i64 0, .int .u32 0] 27)).alloc (.cells #[.int .u64 0, .int .u32 0, .int .u32 0, .int .u64 0, .int .u32 0, .int .i64 0, .int .i64 0, .int .i64 0, .int .u32 0] 27) = w1 at r0 r1 hq hs ⊢
  go_loopw [6, 7, 13] (fun sl ok i wr => ∃ k : Nat, k ≤ 2 ∧ i = .int .i64 k ∧ sl = .int .i64 (ldS bk k).2.1 ∧ ok = .bool (ldS bk k).2.2 ∧ Hid (∀ j, j < k → ek j = 0) ∧ Row wr w.heap.size #[.int .u64 0, .int .u32 0, .int .u32 0, .int .u64 0, .int .u32 0, .int .i64 0, .int .i64 0, .int .i64 0, .int .u32 0] 27 ∧ Row wr (w.heap.size + 1) (mcells (ldS bk k).1) 27 ∧ Q k wr ∧ w.heap.size + 2 ≤ wr.heap.size) (fun _ _ i _ => 2 - (intOf i).toNat)
  case atStart => exact ⟨0, by omega, rfl, rfl, rfl, fun j h => absurd h (by omega), r0, r1, hq, hs⟩
  case round =>
    clear r0 r1 hq hs
    obtain ⟨k, hk, rfl, rfl, rfl, hj, r0, r1, hq, hs⟩ := hrel
    have HNX : Hid (ldS bk (k + 1) = if isM (bk k) && (!(ldS bk k).2.2 || decide ((ldS bk k).1.seq < (gotM (bk k)).seq)) then (gotM (bk k), (k : Int), true) else ldS bk k) := rfl
    have HST : Hid (k = 2 → ldS bk 2 = ldS bk k) := fun e => by rw [e]
    obtain ⟨⟨fM, sl, ok⟩, hst⟩ : ∃ x, ldS bk k = x := ⟨_, rfl⟩
    rw [hst] at r1 HNX HST ⊢
    dsimp only at r1 HNX ⊢
    by_cases hlt : k < 2
    · have HR : Hid _ := hR k hlt hj.out
      have HHL : Hid _ := hl k hlt
      have HKE : Hid _ := HKE.out k hlt hj.out
      clear hR hl HST HKN
      obtain ⟨B, HB⟩ : ∃ x, Hid (bk k = x) := ⟨_, rfl⟩
      obtain ⟨E, HE⟩ : ∃ x, Hid (ek k = x) := ⟨_, rfl⟩
      rw [HB.out, HE.out] at HR
      rw [HB.out] at HHL HNX
      rw [HE.out] at HKE
      have HBL : Hid (B.length = 256) := HHL.out.1
      have hBb : (bs B).size = 256 := by rw [bs_size, HHL.out.1]
      have hlt' : (k : Int) < 2 := by omega
      by_cases hE : E = 0
      · subst hE
        have HUP : Hid _ := fun w => munpack_any B w HHL.out.1 HHL.out.2
        have HJ : Hid (∀ j, j < k + 1 → ek j = 0) := fun j h => by
          by_cases e : j = k
          · rw [e]; exact HE.out
          · exact hj.out j (by omega)
        clear HKE
        obtain ⟨t, HT⟩ : ∃ x, Hid (gotM B = x) := ⟨_, rfl⟩
        rw [HT.out] at HUP HNX
        cases hi : isM B
        · rw [hi] at HUP HNX
          have HN2 : Hid (ldS bk (k + 1) = (fM, sl, ok)) := by show _ = _; rw [HNX.out]; rfl
          clear HNX
          go_upto_region 7 with (first
            | (go_at_call 35; refine (HR.out _ hq).mono ?_; clear HR; rintro ex w2 ⟨rfl, q2, o2⟩
               have qb : Row (w2.alloc (.cells (bs (zs 256)) 29)) w2.heap.size (bs (zs 256)) 29 := Row.new _ _ _)
            | (refine store_row rfl 29 (.tmp 9) (.tmp 20) rfl w2.heap.size B rfl rfl 29 _ qb 256 size29 (by rw [bs_size, zs_length]) HBL.out ?_)
          )
          have r0 := r0.off o2 (fun h => by have := hF _ h; omega)
          have r1 := r1.off o2 (fun h => by have := hF _ h; omega)
          have l2 := o2.size
          have r0 := (r0.alloc (.cells (bs (zs 256)) 29)).other (g := w2.heap.size) (by omega) (bs B)
          have r1 := (r1.alloc (.cells (bs (zs 256)) 29)).other (g := w2.heap.size) (by omega) (bs B)
          have qb := qb.set (bs B)
          have hq := hQ _ _ _ q2 ((Off.of_below ((Below.refl _ _).alloc (Nat.le_refl _) _)).trans (Off.of_setRow (F := fun k => w.heap.size ≤ k) (w2.alloc (.cells (bs (zs 256)) 29)) w2.heap.size (bs B) (by omega)) (fun j hj => Or.inl hj)) (by omega)
          clear q2 o2
          have l3 := qb.lt
          generalize (w2.alloc (.cells (bs (zs 256)) 29)).setRow w2.heap.size (bs B) = w3 at r0 r1 qb hq l3 ⊢
          generalize w2.heap.size = g2 at qb l2 l3 ⊢
          go_upto_region 10 with (first
            | (refine load_row rfl 29 (.tmp 9) rfl g2 rfl 29 (bs B) qb 256 5 Try.underlying29 size29 hBb ?_)
            | (go_at_call 10; refine (HUP.out _).mono ?_; clear HUP; rintro ex w4 ⟨rfl, h4⟩
               have qm : Row (w4.alloc (.cells #[.int .u64 0, .int .u32 0, .int .u32 0, .int .u64 0, .int .u32 0, .int .i64 0, .int .i64 0, .int .i64 0, .int .u32 0] 27)) w4.heap.size #[.int .u64 0, .int .u32 0, .int .u32 0, .int .u64 0, .int .u32 0, .int .i64 0, .int .i64 0, .int .i64 0, .int .u32 0] 27 := Row.new _ _ _)
            | (refine store_cells rfl 27 (.tmp 11) (.tmp 29) rfl w4.heap.size #[.int .u64 t.seq, .int .u32 t.ep, .int .u32 t.tail, .int .u64 t.lsn, .int .u32 t.last, .int .i64 t.pg, .int .i64 t.un, .int .i64 t.lg, .int .u32 t.mx] rfl rfl 27 _ qm 9 size27 rfl rfl (by simp [Value.oneCell']) ?_))
          have r0 := r0.below h4 r0.lt
          have r1 := r1.below h4 r1.lt
          have l4 := h4.size
          have r0 := (r0.alloc (.cells #[.int .u64 0, .int .u32 0, .int .u32 0, .int .u64 0, .int .u32 0, .int .i64 0, .int .i64 0, .int .i64 0, .int .u32 0] 27)).other (g := w4.heap.size) (by omega) #[.int .u64 t.seq, .int .u32 t.ep, .int .u32 t.tail, .int .u64 t.lsn, .int .u32 t.last, .int .i64 t.pg, .int .i64 t.un, .int .i64 t.lg, .int .u32 t.mx]
          have r1 := (r1.alloc (.cells #[.int .u64 0, .int .u32 0, .int .u32 0, .int .u64 0, .int .u32 0, .int .i64 0, .int .i64 0, .int .i64 0, .int .u32 0] 27)).other (g := w4.heap.size) (by omega) #[.int .u64 t.seq, .int .u32 t.ep, .int .u32 t.tail, .int .u64 t.lsn, .int .u32 t.last, .int .i64 t.pg, .int .i64 t.un, .int .i64 t.lg, .int .u32 t.mx]
          have qm := qm.set #[.int .u64 t.seq, .int .u32 t.ep, .int .u32 t.tail, .int .u64 t.lsn, .int .u32 t.last, .int .i64 t.pg, .int .i64 t.un, .int .i64 t.lg, .int .u32 t.mx]
          have hq := hQ _ _ _ hq (((Off.of_below h4).trans (Off.of_below (F := fun k => w.heap.size ≤ k) ((Below.refl _ _).alloc (Nat.le_refl _) (.cells #[.int .u64 0, .int .u32 0, .int .u32 0, .int .u64 0, .int .u32 0, .int .i64 0, .int .i64 0, .int .i64 0, .int .u32 0] 27))) (fun j hj => Or.inl hj)).trans (Off.of_setRow (F := fun k => w.heap.size ≤ k) (w4.alloc (.cells #[.int .u64 0, .int .u32 0, .int .u32 0, .int .u64 0, .int .u32 0, .int .i64 0, .int .i64 0, .int .i64 0, .int .u32 0] 27)) w4.heap.size #[.int .u64 t.seq, .int .u32 t.ep, .int .u32 t.tail, .int .u64 t.lsn, .int .u32 t.last, .int .i64 t.pg, .int .i64 t.un, .int .i64 t.lg, .int .u32 t.mx] (by omega)) (fun j hj => Or.inl hj)) (by omega)
          clear h4 qb
          have l5 := qm.lt
          show Code.wp _ _ _ _ ((w4.alloc (.cells #[.int .u64 0, .int .u32 0, .int .u32 0, .int .u64 0, .int .u32 0, .int .i64 0, .int .i64 0, .int .i64 0, .int .u32 0] 27)).setRow w4.heap.size #[.int .u64 t.seq, .int .u32 t.ep, .int .u32 t.tail, .int .u64 t.lsn, .int .u32 t.last, .int .i64 t.pg, .int .i64 t.un, .int .i64 t.lg, .int .u32 t.mx])
          generalize (w4.alloc (.cells #[.int .u64 0, .int .u32 0, .int .u32 0, .int .u64 0, .int .u32 0, .int .i64 0, .int .i64 0, .int .i64 0, .int .u32 0] 27)).setRow w4.heap.size #[.int .u64 t.seq, .int .u32 t.ep, .int .u32 t.tail, .int .u64 t.lsn, .int .u32 t.last, .int .i64 t.pg, .int .i64 t.un, .int .i64 t.lg, .int .u32 t.mx] = w5 at r0 r1 qm hq l5 ⊢
          generalize w4.heap.size = g4 at qm l4 l5 ⊢
          go_wp2
          go_roundw
          case rel => exact ⟨k + 1, by omega, by go_num, by rw [HN2.out], by rw [HN2.out], HJ, r0, by rw [HN2.out]; exact r1, hq, by omega⟩
          case measure => simp [intOf]; omega
        · rw [hi] at HUP HNX
          go_upto_region 7 with (first
            | (go_at_call 35; refine (HR.out _ hq).mono ?_; clear HR; rintro ex w2 ⟨rfl, q2, o2⟩
               have qb : Row (w2.alloc (.cells (bs (zs 256)) 29)) w2.heap.size (bs (zs 256)) 29 := Row.new _ _ _)
            | (refine store_row rfl 29 (.tmp 9) (.tmp 20) rfl w2.heap.size B rfl rfl 29 _ qb 256 size29 (by rw [bs_size, zs_length]) HBL.out ?_)
          )
          have r0 := r0.off o2 (fun h => by have := hF _ h; omega)
          have r1 := r1.off o2 (fun h => by have := hF _ h; omega)
          have l2 := o2.size
          have r0 := (r0.alloc (.cells (bs (zs 256)) 29)).other (g := w2.heap.size) (by omega) (bs B)
          have r1 := (r1.alloc (.cells (bs (zs 256)) 29)).other (g := w2.heap.size) (by omega) (bs B)
          have qb := qb.set (bs B)
          have hq := hQ _ _ _ q2 ((Off.of_below ((Below.refl _ _).alloc (Nat.le_refl _) _)).trans (Off.of_setRow (F := fun k => w.heap.size ≤ k) (w2.alloc (.cells (bs (zs 256)) 29)) w2.heap.size (bs B) (by omega)) (fun j hj => Or.inl hj)) (by omega)
          clear q2 o2
          have l3 := qb.lt
          generalize (w2.alloc (.cells (bs (zs 256)) 29)).setRow w2.heap.size (bs B) = w3 at r0 r1 qb hq l3 ⊢
          generalize w2.heap.size = g2 at qb l2 l3 ⊢
          go_upto_region 10 with (first
            | (refine load_row rfl 29 (.tmp 9) rfl g2 rfl 29 (bs B) qb 256 5 Try.underlying29 size29 hBb ?_)
            | (go_at_call 10; refine (HUP.out _).mono ?_; clear HUP; rintro ex w4 ⟨rfl, h4⟩
               have qm : Row (w4.alloc (.cells #[.int .u64 0, .int .u32 0, .int .u32 0, .int .u64 0, .int .u32 0, .int .i64 0, .int .i64 0, .int .i64 0, .int .u32 0] 27)) w4.heap.size #[.int .u64 0, .int .u32 0, .int .u32 0, .int .u64 0, .int .u32 0, .int .i64 0, .int .i64 0, .int .i64 0, .int .u32 0] 27 := Row.new _ _ _)
            | (refine store_cells rfl 27 (.tmp 11) (.tmp 29) rfl w4.heap.size #[.int .u64 t.seq, .int .u32 t.ep, .int .u32 t.tail, .int .u64 t.lsn, .int .u32 t.last, .int .i64 t.pg, .int .i64 t.un, .int .i64 t.lg, .int .u32 t.mx] rfl rfl 27 _ qm 9 size27 rfl rfl (by simp [Value.oneCell']) ?_))
          have r0 := r0.below h4 r0.lt
          have r1 := r1.below h4 r1.lt
          have l4 := h4.size
          have r0 := (r0.alloc (.cells #[.int .u64 0, .int .u32 0, .int .u32 0, .int .u64 0, .int .u32 0, .int .i64 0, .int .i64 0, .int .i64 0, .int .u32 0] 27)).other (g := w4.heap.size) (by omega) #[.int .u64 t.seq, .int .u32 t.ep, .int .u32 t.tail, .int .u64 t.lsn, .int .u32 t.last, .int .i64 t.pg, .int .i64 t.un, .int .i64 t.lg, .int .u32 t.mx]
          have r1 := (r1.alloc (.cells #[.int .u64 0, .int .u32 0, .int .u32 0, .int .u64 0, .int .u32 0, .int .i64 0, .int .i64 0, .int .i64 0, .int .u32 0] 27)).other (g := w4.heap.size) (by omega) #[.int .u64 t.seq, .int .u32 t.ep, .int .u32 t.tail, .int .u64 t.lsn, .int .u32 t.last, .int .i64 t.pg, .int .i64 t.un, .int .i64 t.lg, .int .u32 t.mx]
          have qm := qm.set #[.int .u64 t.seq, .int .u32 t.ep, .int .u32 t.tail, .int .u64 t.lsn, .int .u32 t.last, .int .i64 t.pg, .int .i64 t.un, .int .i64 t.lg, .int .u32 t.mx]
          have hq := hQ _ _ _ hq (((Off.of_below h4).trans (Off.of_below (F := fun k => w.heap.size ≤ k) ((Below.refl _ _).alloc (Nat.le_refl _) (.cells #[.int .u64 0, .int .u32 0, .int .u32 0, .int .u64 0, .int .u32 0, .int .i64 0, .int .i64 0, .int .i64 0, .int .u32 0] 27))) (fun j hj => Or.inl hj)).trans (Off.of_setRow (F := fun k => w.heap.size ≤ k) (w4.alloc (.cells #[.int .u64 0, .int .u32 0, .int .u32 0, .int .u64 0, .int .u32 0, .int .i64 0, .int .i64 0, .int .i64 0, .int .u32 0] 27)) w4.heap.size #[.int .u64 t.seq, .int .u32 t.ep, .int .u32 t.tail, .int .u64 t.lsn, .int .u32 t.last, .int .i64 t.pg, .int .i64 t.un, .int .i64 t.lg, .int .u32 t.mx] (by omega)) (fun j hj => Or.inl hj)) (by omega)
          clear h4 qb
          have l5 := qm.lt
          show Code.wp _ _ _ _ ((w4.alloc (.cells #[.int .u64 0, .int .u32 0, .int .u32 0, .int .u64 0, .int .u32 0, .int .i64 0, .int .i64 0, .int .i64 0, .int .u32 0] 27)).setRow w4.heap.size #[.int .u64 t.seq, .int .u32 t.ep, .int .u32 t.tail, .int .u64 t.lsn, .int .u32 t.last, .int .i64 t.pg, .int .i64 t.un, .int .i64 t.lg, .int .u32 t.mx])
          generalize (w4.alloc (.cells #[.int .u64 0, .int .u32 0, .int .u32 0, .int .u64 0, .int .u32 0, .int .i64 0, .int .i64 0, .int .i64 0, .int .u32 0] 27)).setRow w4.heap.size #[.int .u64 t.seq, .int .u32 t.ep, .int .u32 t.tail, .int .u64 t.lsn, .int .u32 t.last, .int .i64 t.pg, .int .i64 t.un, .int .i64 t.lg, .int .u32 t.mx] = w5 at r0 r1 qm hq l5 ⊢
          generalize w4.heap.size = g4 at qm l4 l5 ⊢
          have cm := row_at qm 0 (.int .u64 t.seq) rfl
          have cf := row_at r1 0 (.int .u64 fM.seq) rfl
          cases ok
          · have HN2 : Hid (ldS bk (k + 1) = (t, (k : Int), true)) := by show _ = _; rw [HNX.out]; rfl
            clear HNX
            have r0 := r0.other (g := w.heap.size + 1) (by omega) #[.int .u64 t.seq, .int .u32 t.ep, .int .u32 t.tail, .int .u64 t.lsn, .int .u32 t.last, .int .i64 t.pg, .int .i64 t.un, .int .i64 t.lg, .int .u32 t.mx]
            have x1 := r1.set #[.int .u64 t.seq, .int .u32 t.ep, .int .u32 t.tail, .int .u64 t.lsn, .int .u32 t.last, .int .i64 t.pg, .int .i64 t.un, .int .i64 t.lg, .int .u32 t.mx]
            have hq := hQ _ _ _ hq (Off.of_setRow (F := fun k => w.heap.size ≤ k) w5 (w.heap.size + 1) #[.int .u64 t.seq, .int .u32 t.ep, .int .u32 t.tail, .int .u64 t.lsn, .int .u32 t.last, .int .i64 t.pg, .int .i64 t.un, .int .i64 t.lg, .int .u32 t.mx] (by omega)) (by omega)
            have l6 : (w5.setRow (w.heap.size + 1) #[.int .u64 t.seq, .int .u32 t.ep, .int .u32 t.tail, .int .u64 t.lsn, .int .u32 t.last, .int .i64 t.pg, .int .i64 t.un, .int .i64 t.lg, .int .u32 t.mx]).heap.size = w5.heap.size := by simp [World.setRow]
            go_wp2_with (first
              | (refine load_cells rfl 27 (.tmp 11) rfl g4 rfl 27 #[.int .u64 t.seq, .int .u32 t.ep, .int .u32 t.tail, .int .u64 t.lsn, .int .u32 t.last, .int .i64 t.pg, .int .i64 t.un, .int .i64 t.lg, .int .u32 t.mx] qm 9 Try.underlying27 rfl size27 rfl ?_)
              | (refine store_cells rfl 27 (.tmp 5) (.tmp 43) rfl (w.heap.size + 1) #[.int .u64 t.seq, .int .u32 t.ep, .int .u32 t.tail, .int .u64 t.lsn, .int .u32 t.last, .int .i64 t.pg, .int .i64 t.un, .int .i64 t.lg, .int .u32 t.mx] rfl rfl 27 _ r1 9 size27 rfl rfl (by simp [Value.oneCell']) ?_))
            go_roundw
            case rel => exact ⟨k + 1, by omega, by go_num, by rw [HN2.out], by rw [HN2.out], HJ, r0, by rw [HN2.out]; exact x1, hq, by omega⟩
            case measure => simp [intOf]; omega
          · by_cases hc : fM.seq < t.seq
            · have HN2 : Hid (ldS bk (k + 1) = (t, (k : Int), true)) := by show _ = _; rw [HNX.out]; simp [hc]
              clear HNX
              have r0 := r0.other (g := w.heap.size + 1) (by omega) #[.int .u64 t.seq, .int .u32 t.ep, .int .u32 t.tail, .int .u64 t.lsn, .int .u32 t.last, .int .i64 t.pg, .int .i64 t.un, .int .i64 t.lg, .int .u32 t.mx]
              have x1 := r1.set #[.int .u64 t.seq, .int .u32 t.ep, .int .u32 t.tail, .int .u64 t.lsn, .int .u32 t.last, .int .i64 t.pg, .int .i64 t.un, .int .i64 t.lg, .int .u32 t.mx]
              have hq := hQ _ _ _ hq (Off.of_setRow (F := fun k => w.heap.size ≤ k) w5 (w.heap.size + 1) #[.int .u64 t.seq, .int .u32 t.ep, .int .u32 t.tail, .int .u64 t.lsn, .int .u32 t.last, .int .i64 t.pg, .int .i64 t.un, .int .i64 t.lg, .int .u32 t.mx] (by omega)) (by omega)
              have l6 : (w5.setRow (w.heap.size + 1) #[.int .u64 t.seq, .int .u32 t.ep, .int .u32 t.tail, .int .u64 t.lsn, .int .u32 t.last, .int .i64 t.pg, .int .i64 t.un, .int .i64 t.lg, .int .u32 t.mx]).heap.size = w5.heap.size := by simp [World.setRow]
              go_wp2_with (first
                | (refine load_cells rfl 27 (.tmp 11) rfl g4 rfl 27 #[.int .u64 t.seq, .int .u32 t.ep, .int .u32 t.tail, .int .u64 t.lsn, .int .u32 t.last, .int .i64 t.pg, .int .i64 t.un, .int .i64 t.lg, .int .u32 t.mx] qm 9 Try.underlying27 rfl size27 rfl ?_)
                | (refine store_cells rfl 27 (.tmp 5) (.tmp 43) rfl (w.heap.size + 1) #[.int .u64 t.seq, .int .u32 t.ep, .int .u32 t.tail, .int .u64 t.lsn, .int .u32 t.last, .int .i64 t.pg, .int .i64 t.un, .int .i64 t.lg, .int .u32 t.mx] rfl rfl 27 _ r1 9 size27 rfl rfl (by simp [Value.oneCell']) ?_))
              go_roundw
              case rel => exact ⟨k + 1, by omega, by go_num, by rw [HN2.out], by rw [HN2.out], HJ, r0, by rw [HN2.out]; exact x1, hq, by omega⟩
              case measure => simp [intOf]; omega
            · have HN2 : Hid (ldS bk (k + 1) = (fM, sl, true)) := by show _ = _; rw [HNX.out]; simp [hc]
              clear HNX
              go_wp2
              go_roundw
              case rel => exact ⟨k + 1, by omega, by go_num, by rw [HN2.out], by rw [HN2.out], HJ, r0, by rw [HN2.out]; exact r1, hq, by omega⟩
              case measure => simp [intOf]; omega
      · have HK2 : Hid _ := HKE.out hE
        clear HKE HNX
        go_upto_region 7 with (first
          | (go_at_call 35; refine (HR.out _ hq).mono ?_; clear HR; rintro ex w2 ⟨rfl, q2, o2⟩
             have qb : Row (w2.alloc (.cells (bs (zs 256)) 29)) w2.heap.size (bs (zs 256)) 29 := Row.new _ _ _)
          | (refine store_row rfl 29 (.tmp 9) (.tmp 20) rfl w2.heap.size B rfl rfl 29 _ qb 256 size29 (by rw [bs_size, zs_length]) HBL.out ?_)
        )
        have r0 := r0.off o2 (fun h => by have := hF _ h; omega)
        have r1 := r1.off o2 (fun h => by have := hF _ h; omega)
        have l2 := o2.size
        have r0 := (r0.alloc (.cells (bs (zs 256)) 29)).other (g := w2.heap.size) (by omega) (bs B)
        have r1 := (r1.alloc (.cells (bs (zs 256)) 29)).other (g := w2.heap.size) (by omega) (bs B)
        have qb := qb.set (bs B)
        have hq := hQ _ _ _ q2 ((Off.of_below ((Below.refl _ _).alloc (Nat.le_refl _) _)).trans (Off.of_setRow (F := fun k => w.heap.size ≤ k) (w2.alloc (.cells (bs (zs 256)) 29)) w2.heap.size (bs B) (by omega)) (fun j hj => Or.inl hj)) (by omega)
        clear q2 o2
        have l3 := qb.lt
        generalize (w2.alloc (.cells (bs (zs 256)) 29)).setRow w2.heap.size (bs B) = w3 at r0 r1 qb hq l3 ⊢
        generalize w2.heap.size = g2 at qb l2 l3 ⊢
        have hE' : (E == 0) = false := by simpa using hE
        have hq := hQ _ _ _ hq (Off.of_setRow (F := fun k => w.heap.size ≤ k) w3 w.heap.size #[.int .u64 0, .int .u32 0, .int .u32 0, .int .u64 0, .int .u32 0, .int .i64 0, .int .i64 0, .int .i64 0, .int .u32 0] (Nat.le_refl _)) (by omega)
        obtain ⟨rfl, rfl⟩ := HK2.out
        go_wp2_with (first
          | (refine build_none rfl 27 rfl _ built27 ?_)
          | (refine store_cells rfl 27 (.tmp 2) (.tmp 24) rfl w.heap.size #[.int .u64 0, .int .u32 0, .int .u32 0, .int .u64 0, .int .u32 0, .int .i64 0, .int .i64 0, .int .i64 0, .int .u32 0] rfl rfl 27 _ r0 9 size27 rfl rfl (by simp [Value.oneCell']) ?_))
        refine bodyPost_ret (v := .tuple #[.agg #[.int .u64 0, .int .u32 0, .int .u32 0, .int .u64 0, .int .u32 0, .int .i64 0, .int .i64 0, .int .i64 0, .int .u32 0], .int .i64 0, .int .i64 E]) ?_ rfl ⟨rfl, hq⟩
        exact ret_cell3 (fn := Try.f19) rfl _ _ w.heap.size 27 #[.int .u64 0, .int .u32 0, .int .u32 0, .int .u64 0, .int .u32 0, .int .i64 0, .int .i64 0, .int .i64 0, .int .u32 0] _ _ _ rfl rfl rfl (r0.set _) Try.underlying27 rfl size27
    · obtain rfl : k = 2 := by omega
      have HK := HKN.out hj.out
      rw [HST.out rfl] at HK
      clear HKE HKN HST HNX hR hl hlt
      obtain ⟨h1, rfl⟩ := HK
      cases ok
      · have HRR : Hid (RR = (zm, 0, 2)) := h1
        clear h1
        have hq := hQ _ _ _ hq (Off.of_setRow (F := fun k => w.heap.size ≤ k) _ w.heap.size #[.int .u64 0, .int .u32 0, .int .u32 0, .int .u64 0, .int .u32 0, .int .i64 0, .int .i64 0, .int .i64 0, .int .u32 0] (Nat.le_refl _)) (by omega)
        go_wp2_with (first
          | (refine build_none rfl 27 rfl _ built27 ?_)
          | (refine store_cells rfl 27 (.tmp 2) (.tmp 48) rfl w.heap.size #[.int .u64 0, .int .u32 0, .int .u32 0, .int .u64 0, .int .u32 0, .int .i64 0, .int .i64 0, .int .i64 0, .int .u32 0] rfl rfl 27 _ r0 9 size27 rfl rfl (by simp [Value.oneCell']) ?_))
        refine bodyPost_ret (v := .tuple #[.agg #[.int .u64 0, .int .u32 0, .int .u32 0, .int .u64 0, .int .u32 0, .int .i64 0, .int .i64 0, .int .i64 0, .int .u32 0], .int .i64 0, .int .i64 2]) ?_ rfl ⟨by rw [HRR.out]; rfl, hq⟩
        exact ret_cell3 (fn := Try.f19) rfl _ _ w.heap.size 27 #[.int .u64 0, .int .u32 0, .int .u32 0, .int .u64 0, .int .u32 0, .int .i64 0, .int .i64 0, .int .i64 0, .int .u32 0] _ _ _ rfl rfl rfl (r0.set _) Try.underlying27 rfl size27
      · have HRR : Hid (RR = (fM, sl, 0)) := h1
        clear h1
        have hq := hQ _ _ _ hq (Off.of_setRow (F := fun k => w.heap.size ≤ k) _ w.heap.size #[.int .u64 fM.seq, .int .u32 fM.ep, .int .u32 fM.tail, .int .u64 fM.lsn, .int .u32 fM.last, .int .i64 fM.pg, .int .i64 fM.un, .int .i64 fM.lg, .int .u32 fM.mx] (Nat.le_refl _)) (by omega)
        go_wp2_with (first
          | (refine load_cells rfl 27 (.tmp 5) rfl (w.heap.size + 1) rfl 27 #[.int .u64 fM.seq, .int .u32 fM.ep, .int .u32 fM.tail, .int .u64 fM.lsn, .int .u32 fM.last, .int .i64 fM.pg, .int .i64 fM.un, .int .i64 fM.lg, .int .u32 fM.mx] r1 9 Try.underlying27 rfl size27 rfl ?_)
          | (refine store_cells rfl 27 (.tmp 2) (.tmp 49) rfl w.heap.size #[.int .u64 fM.seq, .int .u32 fM.ep, .int .u32 fM.tail, .int .u64 fM.lsn, .int .u32 fM.last, .int .i64 fM.pg, .int .i64 fM.un, .int .i64 fM.lg, .int .u32 fM.mx] rfl rfl 27 _ r0 9 size27 rfl rfl (by simp [Value.oneCell']) ?_))
        refine bodyPost_ret (v := .tuple #[.agg #[.int .u64 fM.seq, .int .u32 fM.ep, .int .u32 fM.tail, .int .u64 fM.lsn, .int .u32 fM.last, .int .i64 fM.pg, .int .i64 fM.un, .int .i64 fM.lg, .int .u32 fM.mx], .int .i64 sl, .int .i64 0]) ?_ rfl ⟨by rw [HRR.out], hq⟩
        exact ret_cell3 (fn := Try.f19) rfl _ _ w.heap.size 27 #[.int .u64 fM.seq, .int .u32 fM.ep, .int .u32 fM.tail, .int .u64 fM.lsn, .int .u32 fM.last, .int .i64 fM.pg, .int .i64 fM.un, .int .i64 fM.lg, .int .u32 fM.mx] _ _ _ rfl rfl rfl (r0.set _) Try.underlying27 rfl size27
end Go.Proofs.Ytcbjjofckhohjaa
