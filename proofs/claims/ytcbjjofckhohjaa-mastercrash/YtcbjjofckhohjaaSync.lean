/-
  Proved here: what disk.Sync answers and leaves.
-/
import Derived.Test.YtcbjjofckhohjaaRng
namespace Go.Proofs.Ytcbjjofckhohjaa
open Go.ChangeShapes Go.WideShapes Go.ChangeAt Go.RowKit
set_option linter.unusedVariables false
set_option linter.unusedSimpArgs false
set_option maxRecDepth 20000

/-- A disk of which all that was pending lasts. -/
def Dsk.synced (d : Dsk) : Dsk := { d with sure := over d.sure d.pend, pend := [] }
def sync (d : Dsk) : Int × Dsk := if d.down then (4, d) else if (count d).1 = 0 then (0, (count d).2.synced) else count d
theorem range_two {w : World} {g : Nat} {v0 v1 : Value} {t : TypeId} (h : Row w g #[v0, v1] t) : w.rangeAt g 0 [v0, v1] := by
  intro j v hv
  rw [cell_of_row w g _ _ _ _ h, Nat.zero_add]
  simpa using hv
theorem zero79 (w : World) : (zeroValue 79).run Try.prog w = .ok (.agg #[.int .i64 0, .int .i64 0]) w := (zero_of_info (P := Try.prog) (t := 79) (v := .agg #[.int .i64 0, .int .i64 0]) (n := 2) (by kernel_rfl)).1 w
/-- The sectors that last while the fresh ones are laidD over them. -/
def now (f o : Secs) (left : Int → Int → Bool) : Secs := fun b s => if left b s = true then f b s else o b s
theorem now_start (f : Secs) (ps : List (Int × Int × List Int)) (b s : Int) : f b s = now f (over f ps) (fun b s => (over (fun _ _ => none) ps b s).isSome) b s := by
  unfold now
  by_cases e : (over (fun _ _ => none) ps b s).isSome = true
  · rw [if_pos e]
  · rw [if_neg e, over_or]
    cases q : over (fun _ _ => none) ps b s with
    | none => rfl
    | some x => rw [q] at e; simp at e
theorem now_step (f : Secs) (ps : List (Int × Int × List Int)) (left : Int → Int → Bool) (b s : Int) (xs : List Int) (hx : over (fun _ _ => none) ps b s = some xs) : (now f (over f ps) left).put b s xs = now f (over f ps) (fun b' s' => left b' s' && !decide (b' = b ∧ s' = s)) := by
  funext b' s'
  unfold Secs.put now
  by_cases e : b' = b ∧ s' = s
  · obtain ⟨rfl, rfl⟩ := e
    rw [if_pos ⟨rfl, rfl⟩, if_neg (by simp), over_or, hx]; rfl
  · rw [if_neg e]
    simp [e]
theorem now_end (f o : Secs) (left : Int → Int → Bool) (b s : Int) (h : left b s = false) : now f o left b s = o b s := by
  unfold now; rw [if_neg (by rw [h]; decide)]

set_option maxHeartbeats 2000000 in
set_option maxRecDepth 20000 in
theorem sync_in {w : World} {g : Nat} {d0 : Dsk} {L : Loc} {N : Nat} (h0 : DAt w g d0 L N) (ho : d0.ops < 9223372036854775806) (hdn : d0.down = false) (hc0 : (count d0).1 = 0) :
    Calls Try.prog 36 #[.pointer (some ⟨g, 0, none⟩)] w fun e w' => e = .returned (.int .i64 0) ∧ Crashed w g (count d0).2.synced L N w' := by
  have hcount := count_any h0 ho
  rw [hc0] at hcount
  generalize (count d0).2 = d at hcount ⊢
  have HPP : Hid (∀ L' w', DAt w' g d.synced L' N → Off (foot g L) w w' → (∀ j, foot g L' j → foot g L j ∨ w.heap.size ≤ j) → Crashed w g d.synced L N w') := fun L' w' a b c => ⟨L', a, b, c⟩
  generalize Crashed w g d.synced L N = PP at HPP ⊢
  have hz71 := zero81
  have hz74 := zero79
  have hbw := h0.fresh.lt
  go_enter Try.func36, Try.ntmps36
  go_wp2_with (first
    | (go_at_call 45; refine (down_any h0).mono ?_; rw [hdn]; rintro e w' ⟨rfl, rfl⟩)
    | (go_at_call 47; refine hcount.mono ?_; rintro e w1 ⟨rfl, D1, O1⟩
       have c2 := row_at D1.row 2 (.map (some L.b)) rfl
       obtain ⟨wi, cnt0, hrun0, R0, hcn, gi, si⟩ := D1.fresh.range))
  obtain ⟨s0, hs0, hs1⟩ := D1.sure
  have hag := D1.ag
  have hab := D1.ab
  have Oi : Off (· = L.a) w1 wi := Off.of_grown gi (fun k hk => by cases hk)
  have Si : SMap wi L.a (s0 + (d.pend.length - cnt0)) (now d.sure (over d.sure d.pend) (fun b s => (over (fun _ _ => none) d.pend b s).isSome)) :=
    (hs0.kept (gi.block _ hs0.lt (by simp))).mono (by omega) |>.congr (fun b s _ _ => now_start d.sure d.pend b s)
  have HKEEP : Hid (∀ wr, Off (· = L.a) w1 wr → Row wr g (dcells d L) 76 ∧ FMap wr L.f d.fails) := fun wr o => ⟨D1.row.off o hag.symm, D1.fails.off o (fun m e q => D1.fa (q ▸ e))⟩
  have HEND : Hid (∀ wr, SMap wr L.a (s0 + d.pend.length) (over d.sure d.pend) → ∃ dk : Dsk, (∃ s, SMap wr L.a s dk.sure ∧ s ≤ N) ∧ dcells dk L = dcells d L ∧ dk.fails = d.fails ∧ (1 ≤ dk.n ∧ dk.n ≤ 2048) ∧ 0 ≤ dk.ops ∧ Wf dk.fuse ∧ ∀ w' L', DAt w' g dk.forgot L' N → DAt w' g d.synced L' N) := fun wr hsm =>
    ⟨{ d with sure := over d.sure d.pend }, ⟨_, hsm, by omega⟩, rfl, rfl, D1.small, D1.opsn, D1.fusew, fun w' L' h => h⟩
  have hfa := D1.fa
  have hbig := D1.big
  have hbl := D1.fresh.lt
  have hgl := D1.row.lt
  obtain ⟨f, HF⟩ : ∃ f : Secs, Hid (over (fun _ _ => none) d.pend = f) := ⟨_, rfl⟩
  have HSTEP : Hid (∀ left b s xs, f b s = some xs → (now d.sure (over d.sure d.pend) left).put b s xs = now d.sure (over d.sure d.pend) (fun b' s' => left b' s' && !decide (b' = b ∧ s' = s))) := fun left b s xs hx => now_step d.sure d.pend left b s xs (by rw [HF.out]; exact hx)
  rw [HF.out] at R0 Si
  obtain ⟨n, HN⟩ : ∃ n, Hid (d.pend.length = n) := ⟨_, rfl⟩
  rw [HN.out] at R0 Si HEND hcn hs1
  obtain ⟨r, HR⟩ : ∃ r, Hid (w1.heap.size = r) := ⟨_, rfl⟩
  rw [HR.out] at R0 hbl hgl ⊢
  have hrl : ∀ j, j < r → j < w1.heap.size := fun j hj => by rw [HR.out]; exact hj
  have HRL := show Hid _ from hrl
  clear hrl D1 hs0 gi si hrun0 hcount h0 c2
  go_loopw [18] (fun _ wr => ∃ (left : Int → Int → Bool) (cnt : Nat), SRng wr L.b r n f left cnt ∧ cnt ≤ n ∧ SMap wr L.a (s0 + (n - cnt)) (now d.sure (over d.sure d.pend) left) ∧ Off (· = L.a) w1 wr) (fun _ wr => wr.rangeLeft L.b r)
  case atStart => exact ⟨_, cnt0, R0, hcn, Si, Oi⟩
  case round =>
    clear R0 Si Oi hcn
    obtain ⟨left, cnt, Rk, hcn, Sk, Ok⟩ := hrel
    have hle := Rk.left_eq
    rcases Rk.next with ⟨c0, hl0, hnx⟩ | ⟨b, s, xs, w', cnt', wb, ws, hsec, hlf, hfx, hnx, Rk', hlt, gk, sk', hen⟩
    · subst c0
      have Se : SMap wr L.a (s0 + n) (over d.sure d.pend) := (Sk.mono (by omega)).congr (fun b s hb hs => now_end _ _ _ b s (hl0 b s hb hs))
      obtain ⟨row3, fl3⟩ := HKEEP.out _ Ok
      obtain ⟨dk, sk, ed, ef, bd, bo, bf, HC⟩ := HEND.out wr Se
      have rk : Row wr g (dcells dk L) 76 := by rw [ed]; exact row3
      have fk : FMap wr L.f dk.fails := by rw [ef]; exact fl3
      have HC' := show Hid _ from HC
      clear HC ed ef hl0 Sk Rk Se hle
      go_wp2_with (first
        | (go_at_call 37; refine (forget_any (L := L) (d := dk) (N := N) rk sk fk hfa hbig bd bo bf).mono ?_; rintro e w5 ⟨rfl, D5, O5⟩))
      have hp := HPP.out _ _ (HC'.out _ _ D5) (((O1.mono (F' := foot g L) (fun j hj => Or.inl (Or.inl hj))).trans Ok (fun j hj => Or.inl (Or.inr (Or.inl hj)))).trans O5 (fun j hj => Or.inl (Or.inl hj))) (by
        rintro j (rfl | rfl | rfl | e | e)
        · exact Or.inl (Or.inl rfl)
        · exact Or.inl (Or.inr (Or.inl rfl))
        · exact Or.inr (Nat.le_trans O1.size Ok.size)
        · simp [Loc.forgot, Value.ownBlock] at e
        · exact Or.inl (Or.inr (Or.inr (Or.inr (Or.inr e)))))
      go_ret
      exact ⟨rfl, hp⟩
    · have hsl := hsec.1
      have hrr := Rk'.lt
      have hne := Rk'.ne
      have hal := Sk.lt
      have hala : L.a ≠ r := fun q => by
        obtain ⟨es, c, hb⟩ := Sk.block
        obtain ⟨D, lf, ⟨es', clock, since, seen, c0, _, _, _, _, hri, _⟩, _⟩ := Rk
        rw [q, hri] at hb; cases hb
      have HALA1 : some L.a ≠ some r := fun q => hala (Option.some.inj q)
      have HALA2 : some r ≠ some L.a := fun q => hala (Option.some.inj q).symm
      have Ok' : Off (· = L.a) w1 w' := Ok.trans (Off.of_grown (F := (· = r)) gk (fun q hq => by cases hq; rfl)) (fun j hj => Or.inr (by rw [HR.out]; omega))
      have Sk' : SMap w' L.a (s0 + (n - cnt)) (now d.sure (over d.sure d.pend) left) := Sk.kept (gk.block _ hal HALA1)
      have hal' := Sk'.lt
      have hbl' := Rk'.map.lt
      have a0 : Row ((w'.alloc (.cells #[.int .i64 b, .int .i64 s] 79)).alloc (.cells (bs (zs 64)) 81)) w'.heap.size #[.int .i64 b, .int .i64 s] 79 := (Row.new _ _ _).alloc _
      have y0 : Row ((w'.alloc (.cells #[.int .i64 b, .int .i64 s] 79)).alloc (.cells (bs (zs 64)) 81)) (w'.heap.size + 1) (bs (zs 64)) 81 := by
        have := Row.new (w'.alloc (.cells #[.int .i64 b, .int .i64 s] 79)) (bs (zs 64)) 81
        have e : (w'.alloc (.cells #[.int .i64 b, .int .i64 s] 79)).heap.size = w'.heap.size + 1 := by simp
        rw [e] at this
        exact this
      have a3 : Row (((w'.alloc (.cells #[.int .i64 b, .int .i64 s] 79)).alloc (.cells (bs (zs 64)) 81)).setRow (w'.heap.size + 1) (bs xs)) w'.heap.size #[.int .i64 b, .int .i64 s] 79 := a0.other (by omega) _
      have y3 : Row (((w'.alloc (.cells #[.int .i64 b, .int .i64 s] 79)).alloc (.cells (bs (zs 64)) 81)).setRow (w'.heap.size + 1) (bs xs)) (w'.heap.size + 1) (bs xs) 81 := y0.set _
      have keep3 : Hid (∀ j, j < w'.heap.size → (((w'.alloc (.cells #[.int .i64 b, .int .i64 s] 79)).alloc (.cells (bs (zs 64)) 81)).setRow (w'.heap.size + 1) (bs xs)).heap[j]? = w'.heap[j]?) := fun j hj => by
        rw [setRow_other _ _ _ _ (by omega), Below.heap_alloc _ _ _ (by simp; omega), Below.heap_alloc _ _ _ hj]
      have B3 : Below w'.heap.size w' (((w'.alloc (.cells #[.int .i64 b, .int .i64 s] 79)).alloc (.cells (bs (zs 64)) 81)).setRow (w'.heap.size + 1) (bs xs)) := ⟨rfl, rfl, rfl, by simp [World.setRow]; omega, fun j hj => keep3.out j hj⟩
      unfold pk at hnx hen
      clear sk'
      go_wp2_with (first
        | (refine store_row rfl 81 (.tmp 5) (.tmp 22) rfl (w'.heap.size + 1) xs rfl rfl 81 _ y0 64 size81 (by rw [bs_size, zs_length]) hsl ?_))
      clear keep3
      generalize (((w'.alloc (.cells #[.int .i64 b, .int .i64 s] 79)).alloc (.cells (bs (zs 64)) 81)).setRow (w'.heap.size + 1) (bs xs)) = w3 at a3 y3 B3 ⊢
      have O3 : Off (· = L.a) w1 w3 := Ok'.trans (Off.of_below (F := fun _ => False) B3) (fun _ h => h.elim)
      have S3 : SMap w3 L.a (s0 + (n - cnt)) (now d.sure (over d.sure d.pend) left) := Sk'.kept (B3.block _ hal')
      have R3 : SRng w3 L.b r n f (fun b' s' => left b' s' && !decide (b' = b ∧ s' = s)) cnt' := Rk'.kept (B3.block _ hbl') (B3.block _ hrr)
      have row3 := (HKEEP.out _ O3).1
      have hA : w'.heap.size ≠ L.a := by omega
      have hA' : w'.heap.size ≠ L.b := by omega
      have hY : w'.heap.size + 1 ≠ L.a := by omega
      obtain ⟨w4, hrun4, m4, g4, z4⟩ := (show SMap w3.drew L.a (s0 + (n - cnt)) (now d.sure (over d.sure d.pend) left) from S3).store (by unfold maxLen; omega) wb ws hsec
      have g4' : w3.grownBy w4 (some L.a) := ⟨g4.os, g4.tape, g4.output, g4.size, g4.block⟩
      have O4 : Off (· = L.a) w1 w4 := O3.trans (Off.of_grown (F := (· = L.a)) g4' (fun q hq => by cases hq; rfl)) (fun j hj => Or.inl hj)
      have row4 : Row w4 g (dcells d L) 76 := (HKEEP.out _ O4).1
      have a4 : Row w4 w'.heap.size #[.int .i64 b, .int .i64 s] 79 := by
        have := a3
        unfold Row at this ⊢
        rw [g4'.block _ a3.lt (fun q => hA (Option.some.inj q))]; exact this
      have y4 : Row w4 (w'.heap.size + 1) (bs xs) 81 := by
        have := y3
        unfold Row at this ⊢
        rw [g4'.block _ y3.lt (fun q => hY (Option.some.inj q))]; exact this
      have m4' : SMap w4 L.a (s0 + (n - cnt')) (now d.sure (over d.sure d.pend) (fun b' s' => left b' s' && !decide (b' = b ∧ s' = s))) := by
        rw [← HSTEP.out left b s xs hfx]; exact m4.mono (by omega)
      have R4 : SRng w4 L.b r n f (fun b' s' => left b' s' && !decide (b' = b ∧ s' = s)) cnt' := R3.kept (g4'.block _ R3.map.lt (fun q => hab (Option.some.inj q).symm)) (g4'.block _ R3.lt HALA2)
      have hle4 := R4.left_eq
      clear z4 g4 m4 R3 S3 O3 B3 Sk' Ok' hnx hen Rk' Sk Ok gk a0 y0
      generalize w'.heap.size = A at a3 a4 y3 y4 ⊢
      generalize A + 1 = Y at y3 y4 ⊢
      unfold pk at hrun4
      refine wp_region_held_drew (S := fun w' => Row w' g (dcells d L) 76 ∧ Row w' A #[.int .i64 b, .int .i64 s] 79 ∧ Row w' Y (bs xs) 81) (by kernel_rfl) ⟨row3, a3, y3⟩ fun hS => ?_
      refine wpAnyH_take (i := 0) (v := .pointer (some ⟨g, 0, none⟩)) rfl (by kernel_rfl) (by kernel_rfl) (by kernel_rfl) (fun _ _ _ h => h) (Or.inl ⟨by rfl, fun w _ => by rfl⟩) hS ?_
      try simp only [Act.put, List.getElem_toArray, List.getElem_cons_zero, List.getElem_cons_succ, List.setIfInBounds_toArray, List.set_cons_zero, List.set_cons_succ]
      refine wpAnyH_take (i := 1) (v := .pointer (some ⟨g, 0, none⟩)) rfl (by kernel_rfl) (by kernel_rfl) (by kernel_rfl) (fun _ _ _ h => h) (Or.inl ⟨by rfl, fun w _ => by go_simp⟩) hS ?_
      try simp only [Act.put, List.getElem_toArray, List.getElem_cons_zero, List.getElem_cons_succ, List.setIfInBounds_toArray, List.set_cons_zero, List.set_cons_succ]
      refine wpAnyH_take (i := 2) (v := .pointer (some ⟨g, 1, none⟩)) rfl (by kernel_rfl) (by kernel_rfl) (by kernel_rfl) (fun _ _ _ h => h) (Or.inl ⟨by rfl, fun w _ => by go_simp⟩) hS ?_
      try simp only [Act.put, List.getElem_toArray, List.getElem_cons_zero, List.getElem_cons_succ, List.setIfInBounds_toArray, List.set_cons_zero, List.set_cons_succ]
      refine wpAnyH_take (i := 3) (v := .map (some L.a)) rfl (by kernel_rfl) (by kernel_rfl) (by kernel_rfl) (fun _ _ _ h => h) (Or.inl ⟨by rfl, fun w h => by have c := (row_at h.1 1 (.map (some L.a)) rfl); go_simp⟩) hS ?_
      try simp only [Act.put, List.getElem_toArray, List.getElem_cons_zero, List.getElem_cons_succ, List.setIfInBounds_toArray, List.set_cons_zero, List.set_cons_succ]
      refine wpAnyH_take (i := 4) (v := .agg #[.int .i64 b, .int .i64 s]) rfl (by kernel_rfl) (by kernel_rfl) (by kernel_rfl) (fun _ _ _ h => h) (yieldsIf_load_mid (by rfl) 79 (.tmp 4) rfl A 0 rfl [.int .i64 b, .int .i64 s] _ (fun w h => range_two h.2.1) Try.underlying79 rfl size79) hS ?_
      try simp only [Act.put, List.getElem_toArray, List.getElem_cons_zero, List.getElem_cons_succ, List.setIfInBounds_toArray, List.set_cons_zero, List.set_cons_succ]
      refine wpAnyH_take (i := 5) (v := .agg (bs xs)) rfl (by kernel_rfl) (by kernel_rfl) (by kernel_rfl) (fun _ _ _ h => h) (yields_row (by rfl) 81 (.tmp 5) rfl Y rfl 81 (bs xs) (fun w h => h.2.2) 64 5 Try.underlying81 size81 (by rw [bs_size, hsl])) hS ?_
      try simp only [Act.put, List.getElem_toArray, List.getElem_cons_zero, List.getElem_cons_succ, List.setIfInBounds_toArray, List.set_cons_zero, List.set_cons_succ]
      refine wpAnyH_ready (rs := [6]) (by kernel_rfl) (by simp) ?_
      refine AllReadyH.cons rfl (fun K hK => step_of rfl (wp_update 72 (.tmp 26) (.tmp 27) (.tmp 28) rfl _ _ _ rfl rfl rfl w4 hrun4 (hK.out _ _ ⟨row4, a4, y4⟩ fun hS => ?_))) AllReadyH.nil
      try simp only [Act.put, List.getElem_toArray, List.getElem_cons_zero, List.getElem_cons_succ, List.setIfInBounds_toArray, List.set_cons_zero, List.set_cons_succ]
      refine wpAnyH_done (by kernel_rfl) ?_ _
      go_wp2
      go_roundw
      case rel => exact ⟨_, cnt', R4, by omega, m4', O4⟩
      case measure => rw [hle4, hle]; exact hlt

theorem DAt.grow {w : World} {g : Nat} {d : Dsk} {L : Loc} {N M : Nat} (h : DAt w g d L N) (hm : N ≤ M) (hM : M < 1000000000000) : DAt w g d L M :=
  { h with
    sure := by obtain ⟨s, hs, hle⟩ := h.sure; exact ⟨s, hs, by omega⟩
    big := hM }
theorem sync_any {w : World} {g : Nat} {d : Dsk} {L : Loc} {N : Nat} (h : DAt w g d L N) (ho : d.ops < 9223372036854775806) :
    Calls Try.prog 36 #[.pointer (some ⟨g, 0, none⟩)] w fun e w' => e = .returned (.int .i64 (sync d).1) ∧ Crashed w g (sync d).2 L N w' := by
  by_cases hd : d.down = true
  · have e : sync d = (4, d) := by unfold sync; rw [if_pos hd]
    rw [e]
    have hp : Crashed w g d L N w := ⟨L, h, Off.refl _ _, fun j hj => Or.inl hj⟩
    generalize Crashed w g d L N = PP at hp ⊢
    go_enter Try.func36, Try.ntmps36
    go_wp2_with (go_at_call 45; refine (down_any h).mono ?_; rw [hd]; rintro e w' ⟨rfl, rfl⟩)
    go_ret
    exact ⟨rfl, hp⟩
  · have hd' : d.down = false := by simpa using hd
    by_cases hc : (count d).1 = 0
    · have e : sync d = (0, (count d).2.synced) := by unfold sync; rw [if_neg hd, if_pos hc]
      rw [e]
      exact sync_in h ho hd' hc
    · have e : sync d = count d := by unfold sync; rw [if_neg hd, if_neg hc]
      rw [e]
      have hcount := count_any h ho
      have HPP : Hid (∀ w', DAt w' g (count d).2 L N → Off (· = g) w w' → Crashed w g (count d).2 L N w') := fun w' a b => ⟨L, a, b.mono (fun j hj => Or.inl (Or.inl hj)), fun j hj => Or.inl hj⟩
      generalize Crashed w g (count d).2 L N = PP at HPP ⊢
      generalize (count d).2 = d2 at hcount HPP
      generalize (count d).1 = E at hcount hc ⊢
      go_enter Try.func36, Try.ntmps36
      go_wp2_with (first
        | (go_at_call 45; refine (down_any h).mono ?_; rw [hd']; rintro e w' ⟨rfl, rfl⟩)
        | (go_at_call 47; refine hcount.mono ?_; rintro e w1 ⟨rfl, D1, O1⟩))
      go_ret
      exact ⟨rfl, HPP.out _ D1 O1⟩
end Go.Proofs.Ytcbjjofckhohjaa
