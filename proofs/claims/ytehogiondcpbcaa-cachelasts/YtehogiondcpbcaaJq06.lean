/-
  Plain facts on a range over a map of sectors: begun, one step, and that only the keys that there can be count. Proved here: what disk.Sync answers and leaves. Plain facts on a region that draws its order, and whose last operation waits for all the others: what holds of the world needs to hold until then alone. Plain facts on arrays of bytes that go as values: what a block holds, how a whole array is loaded, stored, copied and handed back. Plain facts on frames that a hand goes over: the list of them from the hand on, which one is given up, and what stays.
-/
import Derived.Test.YtehogiondcpbcaaJq05
import Derived.Test.YtehogiondcpbcaaJq00
import Derived.WalkKit
import Derived.ProofKit
import Derived.OpenShut
import Derived.ShutString
import Derived.Laws.BitsAllLaws
import Derived.Laws.BytesArg
import Derived.WalkSpells
import Derived.Laws.CopyOwn
import Derived.Laws.Rows
import Derived.Deep.RegionLaw
import Derived.Deep.WholeRow
import Derived.ChangeKeysEq
import Derived.Deep.RegionHeld
import Derived.Deep.MidRow
import Derived.Deep.CutBlock
import Derived.Deep.CutRange
import Derived.OwnWalk
import Derived.SizedLaws
import Derived.Deep.Grids
import Derived.Deep.Slices
import Derived.Lib.SmallJoins
import Derived.Carry
import Derived.Laws.AppendOwnNone
import Derived.Maps.AppendAt
namespace Go.Proofs.Ytehogiondcpbcaa
open Go.ChangeShapes Go.WideShapes Go.ChangeAt Go.RowKit
set_option linter.unusedVariables false
set_option linter.unusedSimpArgs false
set_option maxRecDepth 20000
theorem SMap.congr {w : World} {a n : Nat} {f h : Secs} (hs : SMap w a n f) (e : ∀ b s, Wf b → Wf s → f b s = h b s) : SMap w a n h := by
  obtain ⟨D, hD, hf⟩ := hs
  exact ⟨D, hD, fun b s hb hw => by rw [← e b s hb hw]; exact hf b s hb hw⟩
theorem SMap.range {w : World} {a n : Nat} {f : Secs} (h : SMap w a n f) :
    ∃ w' cnt, (Instr.range 84 (.map (some a))).run Try.prog w = .ok (.pointer (some ⟨w.heap.size, 0, none⟩)) w' ∧ SRng w' a w.heap.size n f (fun b s => (f b s).isSome) cnt ∧ cnt ≤ n ∧ w.grownBy w' none ∧ w'.heap.size = w.heap.size + 1 := by
  obtain ⟨D, hD, hf⟩ := h
  obtain ⟨w', hrun, hr, hg, hs⟩ := hD.range law90 Try.underlying84
  refine ⟨w', _, hrun, ⟨D, _, hr, hf, fun b s hb hw => ?_⟩, hD.size_le, hg, hs⟩
  show _ = (f b s).isSome
  cases e : f b s with
  | none => rw [(hf b s hb hw).1 e]; rfl
  | some xs => rw [Maps.has_true_of_atKey ((hf b s hb hw).2 xs e).2]; rfl
theorem same_kl {b s b' s' : Int} (hb : Wf b) (hs : Wf s) (hb' : Wf b') (hs' : Wf s') : (kl b' s').sameKey (kl b s) = decide (b' = b ∧ s' = s) := by
  by_cases e : b' = b ∧ s' = s
  · obtain ⟨rfl, rfl⟩ := e
    rw [WideAt.sameKey_self (kl_key hb hs)]; simp
  · rw [decide_eq_false e]
    exact Maps.sameKey_ne (fun q => e (kl_inj hb' hs' hb hs q))
theorem SRng.next {w : World} {a r n : Nat} {f : Secs} {left : Int → Int → Bool} {cnt : Nat} (h : SRng w a r n f left cnt) :
    (cnt = 0 ∧ (∀ b s, Wf b → Wf s → left b s = false) ∧ ∀ ty, (Instr.next (.pointer (some ⟨r, 0, none⟩)) false ty).run Try.prog w = .ok (.tuple #[.bool false]) w) ∨
    ∃ b s xs w' cnt', Wf b ∧ Wf s ∧ Sec xs ∧ left b s = true ∧ f b s = some xs ∧ (∀ ty, (Instr.next (.pointer (some ⟨r, 0, none⟩)) false ty).run Try.prog w = .ok (.tuple #[.bool true, pk b s, .agg (bs xs)]) w') ∧
      SRng w' a r n f (fun b' s' => left b' s' && !decide (b' = b ∧ s' = s)) cnt' ∧ cnt' < cnt ∧ w.grownBy w' (some r) ∧ w'.heap.size = w.heap.size ∧ (Instr.entry (.pointer (some ⟨r, 0, none⟩))).run Try.prog w' = .ok (.tuple #[pk b s, .agg (bs xs)]) w' := by
  obtain ⟨D, lf, hr, hf, hl⟩ := h
  rcases hr.next law90 0 with ⟨h0, h1, _⟩ | ⟨key, v, k0, y, w', cnt', hkey, hlk, hv, hat, hrun, hrg, hlt, hgr, hsz, hen⟩
  · refine Or.inl ⟨h0, fun b s hb hs => by rw [← hl b s hb hs]; exact h1 _, fun ty => ?_⟩
    rcases hr.next law90 ty with ⟨_, _, hrun⟩ | ⟨_, _, _, _, _, cnt', _, _, _, _, _, _, hlt, _⟩
    · exact hrun
    · omega
  · obtain ⟨b, s, rfl, hb, hs, rfl⟩ := key_inv hkey
    obtain ⟨xs, hx, rfl, rfl⟩ := secR_inv hv
    refine Or.inr ⟨b, s, xs, w', cnt', hb, hs, hx, by rw [← hl b s hb hs]; exact hlk, ?_, fun ty => ?_, ⟨D, _, hrg, hf, fun b' s' hb' hs' => ?_⟩, hlt, hgr, hsz, hen⟩
    · cases e : f b s with
      | none =>
        have := (hf b s hb hs).1 e
        rw [Maps.has_true_of_atKey hat] at this; cases this
      | some ys =>
        have := ((hf b s hb hs).2 ys e).2 .nil
        rw [hat] at this
        cases this; rfl
    · exact hrun
    · rw [hl b' s' hb' hs', same_kl hb hs hb' hs']
def Dsk.synced (d : Dsk) : Dsk := { d with sure := over d.sure d.pend, pend := [] }
def sync (d : Dsk) : Int × Dsk := if d.down then (4, d) else if (count d).1 = 0 then (0, (count d).2.synced) else count d
theorem range_two {w : World} {g : Nat} {v0 v1 : Value} {t : TypeId} (h : Row w g #[v0, v1] t) : w.rangeAt g 0 [v0, v1] := by
  intro j v hv
  rw [cell_of_row w g _ _ _ _ h, Nat.zero_add]
  simpa using hv
theorem zero90 (w : World) : (zeroValue 90).run Try.prog w = .ok (.agg #[.int .i64 0, .int .i64 0]) w := (zero_of_info (P := Try.prog) (t := 90) (v := .agg #[.int .i64 0, .int .i64 0]) (n := 2) (by kernel_rfl)).1 w
def now (f o : Secs) (left : Int → Int → Bool) : Secs := fun b s => if left b s = true then f b s else o b s
theorem now_start (f : Secs) (ps : List (Int × Int × List Int)) (b s : Int) : f b s = now f (over f ps) (fun b s => (over (fun _ _ => none) ps b s).isSome) b s := by
  unfold now
  by_cases e : (over (fun _ _ => none) ps b s).isSome = true
  · rw [if_pos e]
  · rw [if_neg e, over_or]
    cases q : over (fun _ _ => none) ps b s with
    | none => rfl
    | some x => rw [q] at e; simp at e
theorem now_step (f : Secs) (ps : List (Int × Int × List Int)) (left : Int → Int → Bool) (b s : Int) (xs : List Int) (hx : over (fun _ _ => none) ps b s = some xs) : (now f (over f ps) left).put b s xs = now f (over f ps) (fun b' s' => left b' s' && !decide (b' = b ∧ s' = s)) := by
  funext b' s'
  unfold Secs.put now
  by_cases e : b' = b ∧ s' = s
  · obtain ⟨rfl, rfl⟩ := e
    rw [if_pos ⟨rfl, rfl⟩, if_neg (by simp), over_or, hx]; rfl
  · rw [if_neg e]
    simp [e]
theorem now_end (f o : Secs) (left : Int → Int → Bool) (b s : Int) (h : left b s = false) : now f o left b s = o b s := by
  unfold now; rw [if_neg (by rw [h]; decide)]
set_option maxHeartbeats 2000000 in
set_option maxRecDepth 20000 in
theorem sync_in {w : World} {g : Nat} {d0 : Dsk} {L : Loc} {N : Nat} (h0 : DAt w g d0 L N) (ho : d0.ops < 9223372036854775806) (hdn : d0.down = false) (hc0 : (count d0).1 = 0) :
    Calls Try.prog 89 #[.pointer (some ⟨g, 0, none⟩)] w fun e w' => e = .returned (.int .i64 0) ∧ Crashed w g (count d0).2.synced L N w' := by
  have hcount := count_any h0 ho
  rw [hc0] at hcount
  generalize (count d0).2 = d at hcount ⊢
  have HPP : Hid (∀ L' w', DAt w' g d.synced L' N → Off (foot g L) w w' → (∀ j, foot g L' j → foot g L j ∨ w.heap.size ≤ j) → Crashed w g d.synced L N w') := fun L' w' a b c => ⟨L', a, b, c⟩
  generalize Crashed w g d.synced L N = PP at HPP ⊢
  have hz71 := zero79
  have hz74 := zero90
  have hbw := h0.fresh.lt
  go_enter Try.func89, Try.ntmps89
  go_wp2_with (first
    | (go_at_call 90; refine (down_any h0).mono ?_; rw [hdn]; rintro e w' ⟨rfl, rfl⟩)
    | (go_at_call 91; refine hcount.mono ?_; rintro e w1 ⟨rfl, D1, O1⟩
       have c2 := row_at D1.row 2 (.map (some L.b)) rfl
       obtain ⟨wi, cnt0, hrun0, R0, hcn, gi, si⟩ := D1.fresh.range))
  obtain ⟨s0, hs0, hs1⟩ := D1.sure
  have hag := D1.ag
  have hab := D1.ab
  have Oi : Off (· = L.a) w1 wi := Off.of_grown gi (fun k hk => by cases hk)
  have Si : SMap wi L.a (s0 + (d.pend.length - cnt0)) (now d.sure (over d.sure d.pend) (fun b s => (over (fun _ _ => none) d.pend b s).isSome)) :=
    (hs0.kept (gi.block _ hs0.lt (by simp))).mono (by omega) |>.congr (fun b s _ _ => now_start d.sure d.pend b s)
  have HKEEP : Hid (∀ wr, Off (· = L.a) w1 wr → Row wr g (dcells d L) 88 ∧ FMap wr L.f d.fails) := fun wr o => ⟨D1.row.off o hag.symm, D1.fails.off o (fun m e q => D1.fa (q ▸ e))⟩
  have HEND : Hid (∀ wr, SMap wr L.a (s0 + d.pend.length) (over d.sure d.pend) → ∃ dk : Dsk, (∃ s, SMap wr L.a s dk.sure ∧ s ≤ N) ∧ dcells dk L = dcells d L ∧ dk.fails = d.fails ∧ (1 ≤ dk.n ∧ dk.n ≤ 2048) ∧ 0 ≤ dk.ops ∧ Wf dk.fuse ∧ ∀ w' L', DAt w' g dk.forgot L' N → DAt w' g d.synced L' N) := fun wr hsm =>
    ⟨{ d with sure := over d.sure d.pend }, ⟨_, hsm, by omega⟩, rfl, rfl, D1.small, D1.opsn, D1.fusew, fun w' L' h => h⟩
  have hfa := D1.fa
  have hbig := D1.big
  have hbl := D1.fresh.lt
  have hgl := D1.row.lt
  obtain ⟨f, HF⟩ : ∃ f : Secs, Hid (over (fun _ _ => none) d.pend = f) := ⟨_, rfl⟩
  have HSTEP : Hid (∀ left b s xs, f b s = some xs → (now d.sure (over d.sure d.pend) left).put b s xs = now d.sure (over d.sure d.pend) (fun b' s' => left b' s' && !decide (b' = b ∧ s' = s))) := fun left b s xs hx => now_step d.sure d.pend left b s xs (by rw [HF.out]; exact hx)
  rw [HF.out] at R0 Si
  obtain ⟨n, HN⟩ : ∃ n, Hid (d.pend.length = n) := ⟨_, rfl⟩
  rw [HN.out] at R0 Si HEND hcn hs1
  obtain ⟨r, HR⟩ : ∃ r, Hid (w1.heap.size = r) := ⟨_, rfl⟩
  rw [HR.out] at R0 hbl hgl ⊢
  have hrl : ∀ j, j < r → j < w1.heap.size := fun j hj => by rw [HR.out]; exact hj
  have HRL := show Hid _ from hrl
  clear hrl D1 hs0 gi si hrun0 hcount h0 c2
  go_loopw [18] (fun _ wr => ∃ (left : Int → Int → Bool) (cnt : Nat), SRng wr L.b r n f left cnt ∧ cnt ≤ n ∧ SMap wr L.a (s0 + (n - cnt)) (now d.sure (over d.sure d.pend) left) ∧ Off (· = L.a) w1 wr) (fun _ wr => wr.rangeLeft L.b r)
  case atStart => exact ⟨_, cnt0, R0, hcn, Si, Oi⟩
  case round =>
    clear R0 Si Oi hcn
    obtain ⟨left, cnt, Rk, hcn, Sk, Ok⟩ := hrel
    have hle := Rk.left_eq
    rcases Rk.next with ⟨c0, hl0, hnx⟩ | ⟨b, s, xs, w', cnt', wb, ws, hsec, hlf, hfx, hnx, Rk', hlt, gk, sk', hen⟩
    · subst c0
      have Se : SMap wr L.a (s0 + n) (over d.sure d.pend) := (Sk.mono (by omega)).congr (fun b s hb hs => now_end _ _ _ b s (hl0 b s hb hs))
      obtain ⟨row3, fl3⟩ := HKEEP.out _ Ok
      obtain ⟨dk, sk, ed, ef, bd, bo, bf, HC⟩ := HEND.out wr Se
      have rk : Row wr g (dcells dk L) 88 := by rw [ed]; exact row3
      have fk : FMap wr L.f dk.fails := by rw [ef]; exact fl3
      have HC' := show Hid _ from HC
      clear HC ed ef hl0 Sk Rk Se hle
      go_wp2_with (first
        | (go_at_call 60; refine (forget_any (L := L) (d := dk) (N := N) rk sk fk hfa hbig bd bo bf).mono ?_; rintro e w5 ⟨rfl, D5, O5⟩))
      have hp := HPP.out _ _ (HC'.out _ _ D5) (((O1.mono (F' := foot g L) (fun j hj => Or.inl (Or.inl hj))).trans Ok (fun j hj => Or.inl (Or.inr (Or.inl hj)))).trans O5 (fun j hj => Or.inl (Or.inl hj))) (by
        rintro j (rfl | rfl | rfl | e | e)
        · exact Or.inl (Or.inl rfl)
        · exact Or.inl (Or.inr (Or.inl rfl))
        · exact Or.inr (Nat.le_trans O1.size Ok.size)
        · simp [Loc.forgot, Value.ownBlock] at e
        · exact Or.inl (Or.inr (Or.inr (Or.inr (Or.inr e)))))
      go_ret
      exact ⟨rfl, hp⟩
    · have hsl := hsec.1
      have hrr := Rk'.lt
      have hne := Rk'.ne
      have hal := Sk.lt
      have hala : L.a ≠ r := fun q => by
        obtain ⟨es, c, hb⟩ := Sk.block
        obtain ⟨D, lf, ⟨es', clock, since, seen, c0, _, _, _, _, hri, _⟩, _⟩ := Rk
        rw [q, hri] at hb; cases hb
      have HALA1 : some L.a ≠ some r := fun q => hala (Option.some.inj q)
      have HALA2 : some r ≠ some L.a := fun q => hala (Option.some.inj q).symm
      have Ok' : Off (· = L.a) w1 w' := Ok.trans (Off.of_grown (F := (· = r)) gk (fun q hq => by cases hq; rfl)) (fun j hj => Or.inr (by rw [HR.out]; omega))
      have Sk' : SMap w' L.a (s0 + (n - cnt)) (now d.sure (over d.sure d.pend) left) := Sk.kept (gk.block _ hal HALA1)
      have hal' := Sk'.lt
      have hbl' := Rk'.map.lt
      have a0 : Row ((w'.alloc (.cells #[.int .i64 b, .int .i64 s] 90)).alloc (.cells (bs (zs 64)) 79)) w'.heap.size #[.int .i64 b, .int .i64 s] 90 := (Row.new _ _ _).alloc _
      have y0 : Row ((w'.alloc (.cells #[.int .i64 b, .int .i64 s] 90)).alloc (.cells (bs (zs 64)) 79)) (w'.heap.size + 1) (bs (zs 64)) 79 := by
        have := Row.new (w'.alloc (.cells #[.int .i64 b, .int .i64 s] 90)) (bs (zs 64)) 79
        have e : (w'.alloc (.cells #[.int .i64 b, .int .i64 s] 90)).heap.size = w'.heap.size + 1 := by simp
        rw [e] at this
        exact this
      have a3 : Row (((w'.alloc (.cells #[.int .i64 b, .int .i64 s] 90)).alloc (.cells (bs (zs 64)) 79)).setRow (w'.heap.size + 1) (bs xs)) w'.heap.size #[.int .i64 b, .int .i64 s] 90 := a0.other (by omega) _
      have y3 : Row (((w'.alloc (.cells #[.int .i64 b, .int .i64 s] 90)).alloc (.cells (bs (zs 64)) 79)).setRow (w'.heap.size + 1) (bs xs)) (w'.heap.size + 1) (bs xs) 79 := y0.set _
      have keep3 : Hid (∀ j, j < w'.heap.size → (((w'.alloc (.cells #[.int .i64 b, .int .i64 s] 90)).alloc (.cells (bs (zs 64)) 79)).setRow (w'.heap.size + 1) (bs xs)).heap[j]? = w'.heap[j]?) := fun j hj => by
        rw [setRow_other _ _ _ _ (by omega), Below.heap_alloc _ _ _ (by simp; omega), Below.heap_alloc _ _ _ hj]
      have B3 : Below w'.heap.size w' (((w'.alloc (.cells #[.int .i64 b, .int .i64 s] 90)).alloc (.cells (bs (zs 64)) 79)).setRow (w'.heap.size + 1) (bs xs)) := ⟨rfl, rfl, rfl, by simp [World.setRow]; omega, fun j hj => keep3.out j hj⟩
      unfold pk at hnx hen
      clear sk'
      go_wp2_with (first
        | (refine store_row rfl 79 (.tmp 5) (.tmp 22) rfl (w'.heap.size + 1) xs rfl rfl 79 _ y0 64 size79 (by rw [bs_size, zs_length]) hsl ?_))
      clear keep3
      generalize (((w'.alloc (.cells #[.int .i64 b, .int .i64 s] 90)).alloc (.cells (bs (zs 64)) 79)).setRow (w'.heap.size + 1) (bs xs)) = w3 at a3 y3 B3 ⊢
      have O3 : Off (· = L.a) w1 w3 := Ok'.trans (Off.of_below (F := fun _ => False) B3) (fun _ h => h.elim)
      have S3 : SMap w3 L.a (s0 + (n - cnt)) (now d.sure (over d.sure d.pend) left) := Sk'.kept (B3.block _ hal')
      have R3 : SRng w3 L.b r n f (fun b' s' => left b' s' && !decide (b' = b ∧ s' = s)) cnt' := Rk'.kept (B3.block _ hbl') (B3.block _ hrr)
      have row3 := (HKEEP.out _ O3).1
      have hA : w'.heap.size ≠ L.a := by omega
      have hA' : w'.heap.size ≠ L.b := by omega
      have hY : w'.heap.size + 1 ≠ L.a := by omega
      obtain ⟨w4, hrun4, m4, g4, z4⟩ := (show SMap w3.drew L.a (s0 + (n - cnt)) (now d.sure (over d.sure d.pend) left) from S3).store (by unfold maxLen; omega) wb ws hsec
      have g4' : w3.grownBy w4 (some L.a) := ⟨g4.os, g4.tape, g4.output, g4.size, g4.block⟩
      have O4 : Off (· = L.a) w1 w4 := O3.trans (Off.of_grown (F := (· = L.a)) g4' (fun q hq => by cases hq; rfl)) (fun j hj => Or.inl hj)
      have row4 : Row w4 g (dcells d L) 88 := (HKEEP.out _ O4).1
      have a4 : Row w4 w'.heap.size #[.int .i64 b, .int .i64 s] 90 := by
        have := a3
        unfold Row at this ⊢
        rw [g4'.block _ a3.lt (fun q => hA (Option.some.inj q))]; exact this
      have y4 : Row w4 (w'.heap.size + 1) (bs xs) 79 := by
        have := y3
        unfold Row at this ⊢
        rw [g4'.block _ y3.lt (fun q => hY (Option.some.inj q))]; exact this
      have m4' : SMap w4 L.a (s0 + (n - cnt')) (now d.sure (over d.sure d.pend) (fun b' s' => left b' s' && !decide (b' = b ∧ s' = s))) := by
        rw [← HSTEP.out left b s xs hfx]; exact m4.mono (by omega)
      have R4 : SRng w4 L.b r n f (fun b' s' => left b' s' && !decide (b' = b ∧ s' = s)) cnt' := R3.kept (g4'.block _ R3.map.lt (fun q => hab (Option.some.inj q).symm)) (g4'.block _ R3.lt HALA2)
      have hle4 := R4.left_eq
      clear z4 g4 m4 R3 S3 O3 B3 Sk' Ok' hnx hen Rk' Sk Ok gk a0 y0
      generalize w'.heap.size = A at a3 a4 y3 y4 ⊢
      generalize A + 1 = Y at y3 y4 ⊢
      unfold pk at hrun4
      refine wp_region_held_drew (S := fun w' => Row w' g (dcells d L) 88 ∧ Row w' A #[.int .i64 b, .int .i64 s] 90 ∧ Row w' Y (bs xs) 79) (by kernel_rfl) ⟨row3, a3, y3⟩ fun hS => ?_
      refine tkI (i := 0) (v := .pointer (some ⟨g, 0, none⟩)) rfl (Or.inl ⟨by rfl, fun w _ => by rfl⟩) hS ?_
      try simp only [Act.put, nz]
      refine tkI (i := 1) (v := .pointer (some ⟨g, 0, none⟩)) rfl (Or.inl ⟨by rfl, fun w _ => by go_simp⟩) hS ?_
      try simp only [Act.put, nz]
      refine tkI (i := 2) (v := .pointer (some ⟨g, 1, none⟩)) rfl (Or.inl ⟨by rfl, fun w _ => by go_simp⟩) hS ?_
      try simp only [Act.put, nz]
      refine tkI (i := 3) (v := .map (some L.a)) rfl (Or.inl ⟨by rfl, fun w h => by have c := (row_at h.1 1 (.map (some L.a)) rfl); go_simp⟩) hS ?_
      try simp only [Act.put, nz]
      refine tkI (i := 4) (v := .agg #[.int .i64 b, .int .i64 s]) rfl (yieldsIf_load_mid (by rfl) 90 (.tmp 4) rfl A 0 rfl [.int .i64 b, .int .i64 s] _ (fun w h => range_two h.2.1) Try.underlying90 rfl size90) hS ?_
      try simp only [Act.put, nz]
      refine tkI (i := 5) (v := .agg (bs xs)) rfl (yields_row (by rfl) 79 (.tmp 5) rfl Y rfl 79 (bs xs) (fun w h => h.2.2) 64 5 Try.underlying79 size79 (by rw [bs_size, hsl])) hS ?_
      try simp only [Act.put, nz]
      refine wpAnyH_ready (rs := [6]) (by kernel_rfl) (by simp) ?_
      refine AllReadyH.cons rfl (fun K hK => step_of rfl (wp_update 84 (.tmp 26) (.tmp 27) (.tmp 28) rfl _ _ _ rfl rfl rfl w4 hrun4 (hK.out _ _ ⟨row4, a4, y4⟩ fun hS => ?_))) AllReadyH.nil
      try simp only [Act.put, nz]
      refine wpAnyH_done (by kernel_rfl) ?_ _
      go_wp2
      go_roundw
      case rel => exact ⟨_, cnt', R4, by omega, m4', O4⟩
      case measure => rw [hle4, hle]; exact hlt
theorem DAt.grow {w : World} {g : Nat} {d : Dsk} {L : Loc} {N M : Nat} (h : DAt w g d L N) (hm : N ≤ M) (hM : M < 1000000000000) : DAt w g d L M :=
  { h with
    sure := by obtain ⟨s, hs, hle⟩ := h.sure; exact ⟨s, hs, by omega⟩
    big := hM }
theorem sync_any {w : World} {g : Nat} {d : Dsk} {L : Loc} {N : Nat} (h : DAt w g d L N) (ho : d.ops < 9223372036854775806) :
    Calls Try.prog 89 #[.pointer (some ⟨g, 0, none⟩)] w fun e w' => e = .returned (.int .i64 (sync d).1) ∧ Crashed w g (sync d).2 L N w' := by
  by_cases hd : d.down = true
  · have e : sync d = (4, d) := by unfold sync; rw [if_pos hd]
    rw [e]
    have hp : Crashed w g d L N w := ⟨L, h, Off.refl _ _, fun j hj => Or.inl hj⟩
    generalize Crashed w g d L N = PP at hp ⊢
    go_enter Try.func89, Try.ntmps89
    go_wp2_with (go_at_call 90; refine (down_any h).mono ?_; rw [hd]; rintro e w' ⟨rfl, rfl⟩)
    go_ret
    exact ⟨rfl, hp⟩
  · have hd' : d.down = false := by simpa using hd
    by_cases hc : (count d).1 = 0
    · have e : sync d = (0, (count d).2.synced) := by unfold sync; rw [if_neg hd, if_pos hc]
      rw [e]
      exact sync_in h ho hd' hc
    · have e : sync d = count d := by unfold sync; rw [if_neg hd, if_neg hc]
      rw [e]
      have hcount := count_any h ho
      have HPP : Hid (∀ w', DAt w' g (count d).2 L N → Off (· = g) w w' → Crashed w g (count d).2 L N w') := fun w' a b => ⟨L, a, b.mono (fun j hj => Or.inl (Or.inl hj)), fun j hj => Or.inl hj⟩
      generalize Crashed w g (count d).2 L N = PP at HPP ⊢
      generalize (count d).2 = d2 at hcount HPP
      generalize (count d).1 = E at hcount hc ⊢
      go_enter Try.func89, Try.ntmps89
      go_wp2_with (first
        | (go_at_call 90; refine (down_any h).mono ?_; rw [hd']; rintro e w' ⟨rfl, rfl⟩)
        | (go_at_call 91; refine hcount.mono ?_; rintro e w1 ⟨rfl, D1, O1⟩))
      go_ret
      exact ⟨rfl, HPP.out _ D1 O1⟩
section
variable {P : Program} {ops : Array Oper} {Q : Exit → Act → World → Prop} {md : Region.Mode} {S : World → Prop} {z : Nat}
def wpAnyL (P : Program) (md : Region.Mode) (ops : Array Oper) (Q : Exit → Act → World → Prop) (S : World → Prop) (z : Nat) : Nat → Array Bool → Act → World → Prop
  | 0, listed, a, w => Region.ready md ops listed = [] ∧ Q .normal a w
  | fuel + 1, listed, a, w =>
    (Region.ready md ops listed = [] → Q .normal a w) ∧
    ∀ i ∈ Region.ready md ops listed, wpOp P ops Q i (fun a' w' => (i ≠ z → S w') ∧ wpAnyL P md ops Q S z fuel (listed.setIfInBounds i true) a' w') a w
theorem wpAny_of_last : ∀ (fuel : Nat) (listed : Array Bool) (a : Act) (w : World), wpAnyL P md ops Q S z fuel listed a w → wpAny P md ops Q fuel listed a w
  | 0, _, _, _, h => h
  | fuel + 1, _, _, _, h => ⟨h.1, fun i hi => wpOp_mono (fun a' w' h' => wpAny_of_last fuel _ a' w' h'.2) (h.2 i hi)⟩
def waitsFor (md : Region.Mode) (ops : Array Oper) (z i : Nat) : Bool := match ops[z]? with | some oz => oz.after.any (fun e => Region.binds md e && e.on == i) | none => false
theorem open_both {listed : Array Bool} {i j : Nat} {o : Oper} (hi : i ∈ Region.ready md ops listed) (hj : j ∈ Region.ready md ops listed) (ho : ops[j]? = some o) : ∀ e ∈ o.after, Region.binds md e = true → e.on ≠ i := by
  intro e he hb q
  obtain ⟨_, o', ho', ha⟩ := mem_ready.1 hj
  cases ho.symm.trans ho'
  have h1 := ha e he hb
  have h2 := (mem_ready.1 hi).1
  rw [q] at h1
  cases hl : listed[i]? with
  | none => simp [hl] at h1
  | some y => simp [hl] at h1 h2; rw [h1] at h2; cases h2
theorem not_last {listed : Array Bool} {i j : Nat} (hz : waitsFor md ops z i = true) (hi : i ∈ Region.ready md ops listed) (hj : j ∈ Region.ready md ops listed) : j ≠ z := by
  rintro rfl
  obtain ⟨_, o, ho, _⟩ := mem_ready.1 hj
  unfold waitsFor at hz
  rw [ho] at hz
  obtain ⟨e, he, hb⟩ := Array.any_eq_true'.1 hz
  simp only [Bool.and_eq_true, beq_iff_eq] at hb
  exact open_both hi hj ho e he hb.1 hb.2
def Apart (md : Region.Mode) (ops : Array Oper) (i : Nat) (oi : Oper) (listed : Array Bool) : Prop :=
  ∀ j oj, ops[j]? = some oj → j ≠ i → listed.getD j true = false → (∀ e ∈ oj.after, Region.binds md e = true → e.on ≠ i) → oi.apart ops oj = true
theorem Apart.more {i j : Nat} {oi : Oper} {listed : Array Bool} (h : Apart md ops i oi listed) : Apart md ops i oi (listed.setIfInBounds j true) := fun k ok hk hki hun hno => by
  refine h k ok hk hki ?_ hno
  by_cases e : j = k
  · subst e
    by_cases hs : j < listed.size
    · simp [hs] at hun
    · rw [Array.setIfInBounds_eq_of_size_le (by omega)] at hun; exact hun
  · rwa [getD_set_ne true e] at hun
theorem wpAnyL_first {i : Nat} {oi : Oper} {v : Value} (hi : ops[i]? = some oi) (hz : waitsFor md ops z i = true) (hsel : ∀ (j : Nat) (o : Oper) cs b, ops[j]? = some o → o.op ≠ .select cs b)
    (hQ : ∀ c a w, Q (.panic c) (a.put oi.dst v) w → Q (.panic c) a w) (fuel : Nat) :
    ∀ (listed : Array Bool) (a : Act) (w : World), Apart md ops i oi listed → i ∈ Region.ready md ops listed → YieldsIf P ops S oi v a → S w →
      wpAnyL P md ops Q S z fuel (listed.setIfInBounds i true) (a.put oi.dst v) w → wpAnyL P md ops Q S z (fuel + 1) listed a w := by
  induction fuel with
  | zero =>
    intro listed a w _ hr hy hS H
    refine ⟨fun none => absurd (none ▸ hr) (by simp), fun j hj => ?_⟩
    rcases Decidable.em (j = i) with rfl | ne
    · exact hy.wpOp hi hS ⟨fun _ => hS, H⟩
    · exact absurd (H.1 ▸ ready_mono hj ne) (by simp)
  | succ fuel ih =>
    intro listed a w ap hr hy hS H
    refine ⟨fun none => absurd (none ▸ hr) (by simp), fun j hj => ?_⟩
    rcases Decidable.em (j = i) with rfl | ne
    · exact hy.wpOp hi hS ⟨fun _ => hS, H⟩
    · obtain ⟨un, oj, hoj, _⟩ := mem_ready.1 hj
      have step := wpOp_putIf hoj (ap j oj hoj ne un (open_both hr hj hoj)) (fun cs b => hsel i oi cs b hi) (fun cs b => hsel j oj cs b hoj) hQ hy (H.2 j (ready_mono hj ne))
      refine wpOp_mono (fun a' w' q => ⟨q.2.1, ih _ a' w' ap.more (ready_mono hr fun e => ne e.symm) q.1 (q.2.1 (not_last hz hr hj)) ?_⟩) step
      have q2 := q.2.2
      rwa [Array.setIfInBounds_comm _ _ (fun e => ne e.symm)] at q2
theorem wpAnyL_take {i : Nat} {oi : Oper} {v : Value} {fuel : Nat} {listed : Array Bool} {a : Act} {w : World} (hi : ops[i]? = some oi) (hz : waitsFor md ops z i = true)
    (hs : Region.noSelect ops = true) (hf : Region.free md ops listed i = true) (hr : (Region.ready md ops listed).contains i = true)
    (hQ : ∀ c a w, Q (.panic c) (a.put oi.dst v) w → Q (.panic c) a w) (hy : YieldsIf P ops S oi v a) (hS : S w)
    (h : wpAnyL P md ops Q S z fuel (listed.setIfInBounds i true) (a.put oi.dst v) w) : wpAnyL P md ops Q S z (fuel + 1) listed a w :=
  wpAnyL_first hi hz (Region.noSelect_spec hs) hQ fuel listed a w (fun j oj => Region.free_spec hi hf j oj) (by simpa using hr) hy hS h
def AllReadyL (P : Program) (md : Region.Mode) (ops : Array Oper) (Q : Exit → Act → World → Prop) (S : World → Prop) (z : Nat) (fuel : Nat) (listed : Array Bool) (a : Act) (w : World) (rs : List Nat) : Prop :=
  ∀ i ∈ rs, wpOp P ops Q i (fun a' w' => (i ≠ z → S w') ∧ wpAnyL P md ops Q S z fuel (listed.setIfInBounds i true) a' w') a w
theorem AllReadyL.nil {fuel : Nat} {listed : Array Bool} {a : Act} {w : World} : AllReadyL P md ops Q S z fuel listed a w [] := fun _ h => by cases h
theorem AllReadyL.cons {fuel : Nat} {listed : Array Bool} {a : Act} {w : World} {i : Nat} {o : Oper} {rs : List Nat} (ho : ops[i]? = some o)
    (h : ∀ K' : Act → World → Prop, Shut (∀ a w, (i ≠ z → S w) → wpAnyL P md ops Q S z fuel (listed.setIfInBounds i true) a w → K' a w) → if Region.wanted o (yielded ops a.tmps) = true then Oper.wp P o a w K' Q else K' (a.put o.dst undef) w)
    (hs : AllReadyL P md ops Q S z fuel listed a w rs) : AllReadyL P md ops Q S z fuel listed a w (i :: rs) := fun j hj => by
  rcases List.mem_cons.1 hj with rfl | hj
  · exact wpOp_step ho (fun K' hK => h K' (fun a w hS hW => hK a w ⟨hS, hW⟩))
  · exact hs j hj
theorem wpAnyL_ready {rs : List Nat} {fuel : Nat} {listed : Array Bool} {a : Act} {w : World} (hr : Region.ready md ops listed = rs) (hne : rs ≠ [])
    (h : AllReadyL P md ops Q S z fuel listed a w rs) : wpAnyL P md ops Q S z (fuel + 1) listed a w := ⟨fun h0 => absurd (hr ▸ h0) hne, hr ▸ h⟩
theorem wpAnyL_done {listed : Array Bool} {a : Act} {w : World} (hr : Region.ready md ops listed = []) (h : Q .normal a w) :
    ∀ fuel, wpAnyL P md ops Q S z fuel listed a w
  | 0 => ⟨hr, h⟩
  | _ + 1 => ⟨fun _ => h, by rw [hr]; simp⟩
theorem wp_region_last {id : Nat} {a : Act} {w : World} (z : Nat) (hm : P.follows .mixedOrders = true) (hS : S w.drew)
    (h : S w.drew → wpAnyL P .any ops Q S z ops.size (Array.replicate ops.size false) a w.drew) : (Code.region id ops true).wp P Q a w :=
  wp_region_any hm (wpAny_of_last _ _ _ _ (h hS))
end
end Go.Proofs.Ytehogiondcpbcaa
namespace Go.Proofs.Ytehogiondcpbcaa.Cl
open Go.ChangeShapes Go.WideShapes Go.ChangeAt Go.RowKit
set_option linter.unusedVariables false
set_option linter.unusedSimpArgs false
set_option maxRecDepth 20000
section
variable {P : Program}
end
section
variable {P : Program}
end
theorem cell_keep {w w' : World} {p : Addr} {u : Value} (h : w.cell? p = some u) (hb : Below w.heap.size w w') : w'.cell? p = some u := by
  rw [← h]
  refine World.cell?_of_block (hb.block _ ?_)
  unfold World.cell? at h
  by_cases q : p.block < w.heap.size
  · exact q
  · rw [Array.getElem?_eq_none (by omega)] at h; cases h
theorem wpList_load_any {P : Program} {ops : Array Oper} {rest : List Oper} {op : Oper} {a : Act} {w : World} {Q : Exit → Act → World → Prop} (hgd : op.guard = none) (ty : TypeId) (x : Operand) (ho : op.op = .load ty x)
    (p : Addr) (hx : a.eval x = .pointer (some p)) (cs : List Value) (d : TypeDesc) (hc : ∀ j v, cs[j]? = some v → w.cell? (p.add j) = some v)
    (hu : P.underlying ty = some d) (hd : d.isRow = true) (hi : (P.info? ty).map (·.size) = some cs.length)
    (h : wpList P ops Q rest (a.put op.dst (.agg cs.toArray)) w) : wpList P ops Q (op :: rest) a w := by
  refine wpList_plain hgd fun K hK => ?_
  have hl : (loadCells p cs.length).run P w = .ok cs.toArray w := run_loadCells_list (P := P) w p cs hc
  have hrun : (loadVar ty p).run P w = .ok (.agg cs.toArray) w := by
    cases hq : P.info? ty with
    | none => simp [hq] at hi
    | some i =>
      have hs : i.size = cs.length := by simpa [hq] using hi
      have hagg : (isAgg ty).run P w = .ok true w := by
        unfold isAgg
        rw [Sem.run_bind, run_underlying hu w]
        cases d <;> simp_all
      simp [loadVar, Sem.run_bind, hagg, sizeOf, typeInfo, hq, hs, hl]
  unfold Oper.wp execOp
  simp only [ho, hx, Instr.loadAt, Instr.sureAddr, Sem.run_bind, Sem.run_pure, Result.andThen_ok, hrun]
  exact hK _ _ h
end Go.Proofs.Ytehogiondcpbcaa.Cl
namespace Go.Proofs.Ytehogiondcpbcaa.Cl
set_option linter.unusedVariables false
set_option linter.unusedSimpArgs false
set_option maxRecDepth 20000
structure Fr where
  no : Nat
  seen : Bool
  cold : Bool
  pins : Int
def Fr.cf (x : Fr) : Bool := x.cold && decide (x.pins = 0)
def Fr.pass (x : Fr) : Fr := if x.pins = 0 then { x with seen := false } else x
def Fr.hit (x : Fr) : Prop := x.pins = 0 ∧ x.seen = false
inductive Vic : List Fr → Nat → List Fr → Prop
  | hit (x : Fr) (T : List Fr) (h : x.hit) : Vic (x :: T) x.no (T ++ [x])
  | pass (x : Fr) (T : List Fr) (v : Nat) (S : List Fr) (h : ¬ x.hit) (q : Vic (T ++ [x.pass]) v S) : Vic (x :: T) v S
def Vict (R : List Fr) (v : Nat) (ok : Bool) (S : List Fr) : Prop :=
  (∃ A x B, R = A ++ x :: B ∧ (∀ y ∈ A, y.cf = false) ∧ x.cf = true ∧ v = x.no ∧ ok = true ∧ S = B ++ (A ++ [x])) ∨
  ((∀ y ∈ R, y.cf = false) ∧ (∃ y ∈ R, y.pins = 0) ∧ Vic R v S ∧ ok = true) ∨
  ((∀ y ∈ R, y.pins ≠ 0) ∧ v = 0 ∧ ok = false ∧ S = R)
def ring (fs : List Fr) (h : Nat) : List Fr := fs.drop h ++ fs.take h
def nxt (n h : Nat) : Nat := (h + 1) % n
theorem ring_cons {fs : List Fr} {h : Nat} {x : Fr} (hx : fs[h]? = some x) : ring fs h = x :: (fs.drop (h + 1) ++ fs.take h) := by
  have hl := (List.getElem?_eq_some_iff.1 hx).1
  have e := (List.getElem?_eq_some_iff.1 hx).2
  unfold ring
  rw [List.drop_eq_getElem_cons hl, e]; rfl
theorem ring_next {fs : List Fr} {h : Nat} (hl : h < fs.length) (y : Fr) : ring (fs.set h y) (nxt fs.length h) = (fs.drop (h + 1) ++ fs.take h) ++ [y] := by
  unfold nxt
  by_cases e : h + 1 = fs.length
  · rw [e, Nat.mod_self]
    unfold ring
    rw [List.drop_zero, List.take_zero, List.append_nil, List.drop_length, List.nil_append]
    rw [List.set_eq_take_append_cons_drop, if_pos hl, e, List.drop_length]
  · rw [Nat.mod_eq_of_lt (by omega)]
    unfold ring
    rw [List.drop_set_of_lt (by omega), List.set_eq_take_append_cons_drop, if_pos hl, List.append_assoc]
    congr 1
    rw [List.take_append, List.length_take, Nat.min_eq_left (by omega), List.take_of_length_le (by rw [List.length_take]; omega), show h + 1 - h = 1 by omega]
    simp
theorem ring_turn {fs : List Fr} {h : Nat} {x : Fr} (hx : fs[h]? = some x) : ring fs (nxt fs.length h) = (fs.drop (h + 1) ++ fs.take h) ++ [x] := by
  have hl := (List.getElem?_eq_some_iff.1 hx).1
  have e := (List.getElem?_eq_some_iff.1 hx).2
  have := ring_next hl x
  rwa [← e, List.set_getElem_self, e] at this
theorem mem_ring {fs : List Fr} {h : Nat} {x : Fr} : x ∈ ring fs h ↔ x ∈ fs := by
  unfold ring
  rw [List.mem_append, or_comm, ← List.mem_append, List.take_append_drop]
theorem ring_at {fs : List Fr} {h k : Nat} (hl : h < fs.length) (hk : k < fs.length) : (ring fs h)[k]? = fs[(h + k) % fs.length]? := by
  unfold ring
  by_cases q : h + k < fs.length
  · rw [List.getElem?_append_left (by rw [List.length_drop]; omega), List.getElem?_drop, Nat.mod_eq_of_lt q]
  · rw [List.getElem?_append_right (by rw [List.length_drop]; omega), List.length_drop, List.getElem?_take, if_pos (by omega)]
    congr 1
    rw [Nat.mod_eq_sub_mod (by omega), Nat.mod_eq_of_lt (by omega)]; omega
theorem ring_length (fs : List Fr) (h : Nat) : (ring fs h).length = fs.length := by
  unfold ring
  rw [List.length_append, List.length_drop, List.length_take]; omega
theorem ring_skip {fs : List Fr} {h k : Nat} {x : Fr} (hl : h < fs.length) (hk : k < fs.length) (hx : fs[(h + k) % fs.length]? = some x) :
    ∃ A B, ring fs h = A ++ x :: B ∧ A.length = k ∧ ring fs (nxt fs.length ((h + k) % fs.length)) = B ++ (A ++ [x]) := by
  have hm : (h + k) % fs.length < fs.length := Nat.mod_lt _ (by omega)
  refine ⟨(ring fs h).take k, (ring fs h).drop (k + 1), ?_, by rw [List.length_take, ring_length]; omega, ?_⟩
  · have e := ring_at hl hk
    rw [hx] at e
    have hk' := (List.getElem?_eq_some_iff.1 e).1
    have e' := (List.getElem?_eq_some_iff.1 e).2
    rw [← e', ← List.drop_eq_getElem_cons hk', List.take_append_drop]
  · rw [ring_turn hx]
    by_cases q : h + k < fs.length
    · rw [Nat.mod_eq_of_lt q] at hx ⊢
      unfold ring
      rw [List.drop_append, List.take_append, List.length_drop, List.drop_drop, show k + 1 - (fs.length - h) = 0 by omega, show k - (fs.length - h) = 0 by omega, List.take_zero, List.append_nil, List.drop_zero]
      rw [show h + (k + 1) = h + k + 1 by omega, List.append_assoc, List.append_assoc]
      congr 1
      rw [← List.append_assoc]
      congr 1
      rw [← List.take_add]
    · have e : (h + k) % fs.length = h + k - fs.length := by rw [Nat.mod_eq_sub_mod (by omega), Nat.mod_eq_of_lt (by omega)]
      rw [e] at hx ⊢
      obtain ⟨m, hm'⟩ : ∃ m, h + k - fs.length = m := ⟨_, rfl⟩
      rw [hm'] at hx ⊢
      unfold ring
      have d1 : (fs.drop h ++ fs.take h).drop (k + 1) = (fs.take h).drop (m + 1) := by
        have d0 : (fs.drop h).drop (k + 1) = [] := List.drop_eq_nil_of_le (by rw [List.length_drop]; omega)
        rw [List.drop_append, List.length_drop, d0, List.nil_append, show k + 1 - (fs.length - h) = m + 1 by omega]
      have d2 : (fs.drop h ++ fs.take h).take k = fs.drop h ++ fs.take m := by
        rw [List.take_append, List.length_drop, List.take_of_length_le (l := fs.drop h) (by rw [List.length_drop]; omega), show k - (fs.length - h) = m by omega, List.take_take, Nat.min_eq_left (by omega)]
      rw [d1, d2]
      have e3 : fs.drop (m + 1) = (fs.take h).drop (m + 1) ++ fs.drop h := by
        conv => lhs; rw [← List.take_append_drop h fs]
        rw [List.drop_append, List.length_take, Nat.min_eq_left (by omega), show m + 1 - h = 0 by omega, List.drop_zero]
      rw [e3]
      simp
def fre (R : List Fr) : List Fr := R.filter fun x => decide (x.pins = 0)
theorem fre_append (A B : List Fr) : fre (A ++ B) = fre A ++ fre B := List.filter_append ..
theorem fre_cons_free {x : Fr} (h : x.pins = 0) (R : List Fr) : fre (x :: R) = x :: fre R := by unfold fre; rw [List.filter_cons, if_pos (by simpa using h)]
theorem fre_cons_held {x : Fr} (h : ¬ x.pins = 0) (R : List Fr) : fre (x :: R) = fre R := by unfold fre; rw [List.filter_cons, if_neg (by simpa using h)]
theorem fre_nil : fre [] = [] := rfl
theorem pass_pins (x : Fr) : x.pass.pins = x.pins := by unfold Fr.pass; split <;> rfl
theorem pass_no (x : Fr) : x.pass.no = x.no := by unfold Fr.pass; split <;> rfl
theorem pass_cold (x : Fr) : x.pass.cold = x.cold := by unfold Fr.pass; split <;> rfl
theorem pass_held {x : Fr} (h : ¬ x.pins = 0) : x.pass = x := by unfold Fr.pass; rw [if_neg h]
theorem pass_seen {x : Fr} (h : x.pins = 0) : x.pass.seen = false := by unfold Fr.pass; rw [if_pos h]
def Tail (m : Nat) (F : List Fr) : Prop := ∃ A B, F = A ++ B ∧ m ≤ B.length ∧ ∀ x ∈ B, x.seen = false
theorem Vic.keep {R : List Fr} {v : Nat} {S : List Fr} (h : Vic R v S) : (fre S).length = (fre R).length ∧ List.Perm ((fre S).map Fr.no) ((fre R).map Fr.no) ∧ ∀ y ∈ S, ∃ z ∈ R, y.cold = z.cold ∧ y.pins = z.pins ∧ y.no = z.no := by
  induction h with
  | hit x T h =>
    refine ⟨?_, ?_, fun y hy => ⟨y, by simp at hy ⊢; exact hy.symm, rfl, rfl, rfl⟩⟩
    · rw [fre_append, fre_cons_free h.1, fre_cons_free h.1, fre_nil]; simp
    · rw [fre_append, fre_cons_free h.1, fre_cons_free h.1, fre_nil, List.map_append]
      exact List.perm_append_comm
  | pass x T v S h q ih =>
    obtain ⟨i1, i2, i3⟩ := ih
    refine ⟨?_, ?_, fun y hy => ?_⟩
    · rw [i1]
      by_cases hp : x.pins = 0
      · rw [fre_append, fre_cons_free hp, fre_cons_free (by rw [pass_pins]; exact hp), fre_nil]; simp
      · rw [fre_append, fre_cons_held hp, fre_cons_held (by rw [pass_pins]; exact hp), fre_nil]; simp
    · refine i2.trans ?_
      by_cases hp : x.pins = 0
      · rw [fre_append, fre_cons_free hp, fre_cons_free (by rw [pass_pins]; exact hp), fre_nil, List.map_append, List.map_cons, pass_no]
        exact List.perm_append_comm
      · rw [fre_append, fre_cons_held hp, fre_cons_held (by rw [pass_pins]; exact hp), fre_nil, List.append_nil]
    · obtain ⟨z, hz, e1, e2, e3⟩ := i3 y hy
      rcases List.mem_append.1 hz with q | q
      · exact ⟨z, by simp [q], e1, e2, e3⟩
      · simp at q
        subst q
        exact ⟨x, by simp, e1.trans (pass_cold x), e2.trans (pass_pins x), e3.trans (pass_no x)⟩
def far : List Fr → Option Nat
  | [] => none
  | x :: T => if x.pins = 0 ∧ x.seen = false then some 0 else (far T).map (· + 1)
def firstFree : List Fr → Nat
  | [] => 0
  | x :: T => if x.pins = 0 then 0 else firstFree T + 1
def way (R : List Fr) : Nat := match far R with | some k => k | none => R.length + firstFree R
theorem far_append_some {A B : List Fr} {k : Nat} (h : far A = some k) : far (A ++ B) = some k := by
  induction A generalizing k with
  | nil => simp [far] at h
  | cons x T ih =>
    rw [List.cons_append]
    unfold far at h ⊢
    split at h
    · rename_i q; rw [if_pos q]; exact h
    · rename_i q; rw [if_neg q]
      cases e : far T with
      | none => rw [e] at h; simp at h
      | some j => rw [e] at h; rw [ih e]; exact h
theorem far_append_none {A B : List Fr} (h : far A = none) : far (A ++ B) = (far B).map (· + A.length) := by
  induction A with
  | nil => simp
  | cons x T ih =>
    rw [List.cons_append]
    unfold far at h
    split at h
    · simp at h
    · rename_i q
      have e : far T = none := by cases e : far T with
        | none => rfl
        | some j => rw [e] at h; simp at h
      have e2 : far (x :: (T ++ B)) = (far (T ++ B)).map (· + 1) := by
        conv => lhs; unfold far
        rw [if_neg q]
      rw [e2, ih e]
      cases far B with
      | none => rfl
      | some j => simp; omega
theorem firstFree_append {A B : List Fr} (h : ∃ y ∈ A, y.pins = 0) : firstFree (A ++ B) = firstFree A := by
  induction A with
  | nil => obtain ⟨y, hy, _⟩ := h; cases hy
  | cons x T ih =>
    rw [List.cons_append]
    unfold firstFree
    by_cases q : x.pins = 0
    · rw [if_pos q, if_pos q]
    · rw [if_neg q, if_neg q, ih]
      obtain ⟨y, hy, h0⟩ := h
      rcases List.mem_cons.1 hy with rfl | hy
      · exact absurd h0 q
      · exact ⟨y, hy, h0⟩
theorem way_pass {x : Fr} {T : List Fr} (h : ¬ x.hit) (hf : ∃ y ∈ x :: T, y.pins = 0) : way (T ++ [x.pass]) < way (x :: T) ∧ ∃ y ∈ T ++ [x.pass], y.pins = 0 := by
  refine ⟨?_, ?_⟩
  · have e : far (x :: T) = (far T).map (· + 1) := by
      conv => lhs; unfold far
      rw [if_neg (show ¬ (x.pins = 0 ∧ x.seen = false) from h)]
    unfold way
    rw [e]
    cases q : far T with
    | some k => rw [far_append_some q]; simp
    | none =>
      rw [far_append_none q]
      by_cases hp : x.pins = 0
      · have : far [x.pass] = some 0 := by unfold far; rw [if_pos ⟨by rw [pass_pins]; exact hp, pass_seen hp⟩]
        rw [this]; simp; omega
      · have : far [x.pass] = none := by unfold far; rw [if_neg (fun c => hp (by rw [← pass_pins]; exact c.1))]; simp [far]
        rw [this]
        simp
        have hT : ∃ y ∈ T, y.pins = 0 := by
          obtain ⟨y, hy, h0⟩ := hf
          rcases List.mem_cons.1 hy with rfl | hy
          · exact absurd h0 hp
          · exact ⟨y, hy, h0⟩
        rw [firstFree_append hT]
        conv => rhs; unfold firstFree
        rw [if_neg hp]
        omega
  · obtain ⟨y, hy, h0⟩ := hf
    rcases List.mem_cons.1 hy with rfl | hy
    · exact ⟨y.pass, by simp, by rw [pass_pins]; exact h0⟩
    · exact ⟨y, by simp [hy], h0⟩
end Go.Proofs.Ytehogiondcpbcaa.Cl
