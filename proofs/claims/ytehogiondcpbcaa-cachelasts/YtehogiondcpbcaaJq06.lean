/-
  Proved here: what disk.Crash leaves. Plain facts on a range over a map of sectors: begun, one step, and that only the keys that there can be count. Proved here: what disk.Sync answers and leaves.
-/
import Derived.Test.YtehogiondcpbcaaJq05
namespace Go.Proofs.Ytehogiondcpbcaa
open Go.ChangeShapes Go.WideShapes Go.ChangeAt Go.RowKit
set_option linter.unusedVariables false
set_option linter.unusedSimpArgs false
set_option maxRecDepth 20000
def kept (ps : List (Int × Int × List Int)) (bl : List Bool) : Nat → List (Int × Int × List Int)
  | 0 => []
  | k + 1 => if bl.getD k false = true then kept ps bl k ++ [ps.getD k (0, 0, [])] else kept ps bl k
def Dsk.crash (d : Dsk) (bl : List Bool) : Dsk := ⟨d.n, over d.sure (kept d.pend bl d.pend.length), [], false, 0, 0, fun i => decide (i ∈ ([] : List Int))⟩
def Crashed (w : World) (g : Nat) (d : Dsk) (L : Loc) (N : Nat) (w' : World) : Prop := ∃ L', DAt w' g d L' N ∧ Off (foot g L) w w' ∧ ∀ j, foot g L' j → foot g L j ∨ w.heap.size ≤ j
theorem crash_off {w w1 w2 w3 : World} {g : Nat} {L : Loc} (o1 : Off (· = L.a) w w1) (o2 : Off (· = g) w1 w2) (o3 : Off (· = g) w2 w3) : Off (foot g L) w (w3.setCell ⟨g, 4, none⟩ (.bool false)) :=
  (((o1.mono (F' := foot g L) (fun j hj => Or.inl (Or.inr (Or.inl hj)))).trans o2 (fun j hj => Or.inl (Or.inl hj))).trans o3 (fun j hj => Or.inl (Or.inl hj))).trans (Off.of_setCell (F := (· = g)) _ _ _ rfl) (fun j hj => Or.inl (Or.inl hj))
theorem crash_foot {g m : Nat} {L : Loc} {w w1 w2 : World} (hb : L.b < w.heap.size) (h1 : w.heap.size ≤ w1.heap.size) (h2 : w1.heap.size ≤ w2.heap.size) (hm : w2.heap.size ≤ m) : ∀ j, foot g ((L.forgot w1.heap.size).plan m) j → foot g L j ∨ w.heap.size ≤ j := by
  rintro j (rfl | rfl | rfl | e | e)
  · exact Or.inl (Or.inl rfl)
  · exact Or.inl (Or.inr (Or.inl rfl))
  · exact Or.inr h1
  · simp [Loc.plan, Loc.forgot, Value.ownBlock] at e
  · simp [Loc.plan] at e; exact Or.inr (by omega)
theorem pend_range {w : World} {r n cap g : Nat} {ps : List (Int × Int × List Int)} (h : w.ownsRow g 136 66 (.slice (some ⟨r, 0, none⟩) n cap) ps.length (pcells ps)) (hs : ∀ q ∈ ps, q.2.2.length = 64) (k : Nat) (hk : k < ps.length) : w.rangeAt r (k * 66) (pcell (ps.getD k (0, 0, []))) := by
  have hc := h.cells (g := r) rfl
  have hat : ∀ (ps : List (Int × Int × List Int)), (∀ q ∈ ps, q.2.2.length = 64) → ∀ k, k < ps.length → ∀ j v, (pcell (ps.getD k (0, 0, [])))[j]? = some v → (pcells ps)[k * 66 + j]? = some v := by
    intro ps
    induction ps with
    | nil => intro _ k hk; simp at hk
    | cons q t ih =>
      intro hq k hk j v hv
      have hl : (pcell q).length = 66 := by simp [pcell, hq q (by simp)]
      show (pcell q ++ pcells t)[k * 66 + j]? = some v
      cases k with
      | zero =>
        have : j < (pcell q).length := by
          have := (List.getElem?_eq_some_iff.1 hv).1
          simpa [List.getD] using this
        rw [Nat.zero_mul, Nat.zero_add, List.getElem?_append_left this]
        simpa [List.getD] using hv
      | succ k =>
        rw [List.getElem?_append_right (by rw [hl]; omega), hl, show (k + 1) * 66 + j - 66 = k * 66 + j by omega]
        refine ih (fun r hr => hq r (by simp [hr])) k (by simpa using hk) j v ?_
        simpa [List.getD] using hv
  intro j v hv
  have := hc (k * 66 + j) v (hat ps hs k hk j v hv)
  rw [Addr.add_mid, Nat.zero_add] at this
  exact this
set_option maxHeartbeats 2000000 in
set_option maxRecDepth 20000 in
theorem crash_any {w : World} {g : Nat} {d : Dsk} {L : Loc} {N : Nat} (hd : DAt w g d L N) (k : Value) (bl : List Bool) (hc : Cel w k (bl.map .bool)) (hne : ∀ a n c, k = .slice (some a) n c → ¬ foot g L a.block) :
    Calls Try.prog 27 #[.pointer (some ⟨g, 0, none⟩), k] w fun e w' => e = .returned (.tuple #[]) ∧ Crashed w g (d.crash bl) L N w' := by
  have HPP : Hid (∀ L' w', DAt w' g (d.crash bl) L' N → Off (foot g L) w w' → (∀ j, foot g L' j → foot g L j ∨ w.heap.size ≤ j) → Crashed w g (d.crash bl) L N w') := fun L' w' a b c => ⟨L', a, b, c⟩
  generalize Crashed w g (d.crash bl) L N = PP at HPP ⊢
  obtain ⟨s0, hs0, hs1⟩ := hd.sure
  have hag := hd.ag
  have hz81 := zero136
  have c3 := row_at hd.row 3 L.p rfl
  have HKEEP : Hid (∀ wr, Off (· = L.a) w wr → Row wr g (dcells d L) 88 ∧ FMap wr L.f d.fails) := fun wr o => ⟨hd.row.off o hag.symm, hd.fails.off o (fun m e q => hd.fa (q ▸ e))⟩
  have hlk : ∃ (n : Nat), n = bl.length ∧ (k = .slice none 0 0 ∧ n = 0 ∨ ∃ a cap, k = .slice (some a) n cap ∧ a.block ≠ L.a ∧ ∀ j, j < n → w.cell? (a.add j) = some (.bool (bl.getD j false))) := by
    rcases hc with ⟨rfl, e⟩ | ⟨a, cap, rfl, hcell⟩
    · have : bl = [] := by simpa using e
      exact ⟨0, by rw [this]; rfl, Or.inl ⟨rfl, rfl⟩⟩
    · refine ⟨bl.length, rfl, Or.inr ⟨a, cap, by rw [List.length_map], fun q => hne a _ _ rfl (Or.inr (Or.inl q)), fun j hj => hcell j _ ?_⟩⟩
      rw [List.getElem?_map, List.getElem?_eq_getElem hj]
      simp [List.getD, hj]
  obtain ⟨nk, hnk, hk⟩ := hlk
  have HNK : Hid (nk = bl.length) := hnk
  clear hnk
  have HSTEP : Hid (∀ j, kept d.pend bl (j + 1) = if bl.getD j false = true then kept d.pend bl j ++ [d.pend.getD j (0, 0, [])] else kept d.pend bl j) := fun j => rfl
  have hpend := hd.pend
  rcases hpend.2 with ⟨hp, hn0⟩ | ⟨r, cap, cur, hp, _⟩
  · have e0 : d.pend = [] := List.eq_nil_of_length_eq_zero hn0
    obtain ⟨dk, HDK⟩ : ∃ dk : Dsk, Hid (dk = d) := ⟨d, rfl⟩
    have HC : Hid (∀ w', DAt w' g { (dk.forgot.plan [] 0) with down := false } = DAt w' g (d.crash bl)) := fun w' => by
      rw [HDK.out]; unfold Dsk.forgot Dsk.plan Dsk.crash; rw [e0]; rfl
    rw [hp] at c3
    have sk : ∃ s, SMap w L.a s dk.sure ∧ s ≤ N := ⟨s0, by rw [HDK.out]; exact hs0, by omega⟩
    have rk : Row w g (dcells dk L) 88 := by rw [HDK.out]; exact hd.row
    have fk : FMap w L.f dk.fails := by rw [HDK.out]; exact hd.fails
    have bd : 1 ≤ dk.n ∧ dk.n ≤ 2048 := by rw [HDK.out]; exact hd.small
    have bo : 0 ≤ dk.ops := by rw [HDK.out]; exact hd.opsn
    have bf : Wf dk.fuse := by rw [HDK.out]; exact hd.fusew
    have bdn : Hid (dk.down = d.down) := by show _ = _; rw [HDK.out]
    have O0 := Off.refl (· = L.a) w
    go_enter Try.func27, Try.ntmps27
    go_wp2
    go_loopw [13] (fun c wr => c = .int .i64 0 ∧ wr = w) (fun _ _ => 0)
    case atStart => exact ⟨rfl, rfl⟩
    case round =>
      obtain ⟨rfl, rfl⟩ := hrel
      go_wp2_with (first
          | (go_at_call 60; refine (forget_any (L := L) (d := dk) (N := N) rk sk fk hd.fa hd.big bd bo bf).mono ?_; rintro e w5 ⟨rfl, D5, O5⟩)
          | (go_at_call 24; refine (plan_any D5 (.slice none 0 0) [] (Or.inl ⟨rfl, rfl⟩) (fun a n c e => (by cases e)) (fun z hz => (by cases hz)) (by simp) 0 (wf_of (by omega) (by omega))).mono ?_; rintro e w6 ⟨rfl, m6, hm6, D6, O6⟩
             have c46 := row_at D6.row 4 (.bool dk.down) rfl
             have f46 := row_frozen D6.row 4
             have D7 := D6.setDown false))
      have hp := HPP.out _ _ (by rw [← HC.out]; exact D7) (crash_off O0 O5 O6) (crash_foot (hd.lt (k := L.b) (Or.inr (Or.inr (Or.inl rfl)))) (Nat.le_refl _) O5.size hm6)
      first
        | (go_end0; exact ⟨rfl, hp⟩)
        | (refine bodyPost_ret (results_none rfl _ _ _) rfl ?_; exact ⟨rfl, hp⟩)
  · obtain ⟨n, HN⟩ : ∃ n, Hid (d.pend.length = n) := ⟨_, rfl⟩
    rw [HN.out] at hp hs1 hpend
    rw [hp] at c3 hpend
    have HR : Hid (∀ wr, Off (· = L.a) w wr → ∀ j, j < n → wr.rangeAt r (j * 66) (pcell (d.pend.getD j (0, 0, [])))) := fun wr o j hj => by
      refine pend_range (g := g + 1) (n := n) (cap := cap) ?_ (fun q hq => (hd.okp q hq).2.2.2.2.1) j (by rw [HN.out]; exact hj)
      rw [HN.out]
      exact ownsRow_kept hpend fun k e hl => o.block k hl (fun q => hd.pa (by rw [hp, ← q]; exact e))
    have HQ : Hid (∀ j, j < n → ∃ q1 q2 s, d.pend.getD j (0, 0, []) = (q1, q2, s) ∧ Wf q1 ∧ Wf q2 ∧ Sec s) := fun j hj => by
      have hm : d.pend.getD j (0, 0, []) ∈ d.pend := by
        have : j < d.pend.length := by rw [HN.out]; exact hj
        simp only [List.getD]; rw [List.getElem?_eq_getElem this]; exact List.getElem_mem this
      have hok := hd.okp _ hm
      have := hd.small
      generalize d.pend.getD j (0, 0, []) = q at hok ⊢
      obtain ⟨q1, q2, s⟩ := q
      obtain ⟨h1, h2, h3, h4, h5⟩ := hok
      simp only at h1 h2 h3 h4 h5
      exact ⟨q1, q2, s, rfl, wf_of (by omega) (by omega), wf_of (by omega) (by omega), h5⟩
    have HEND : Hid (∀ wr, SMap wr L.a (s0 + n) (over d.sure (kept d.pend bl n)) → ∃ dk : Dsk, (∃ s, SMap wr L.a s dk.sure ∧ s ≤ N) ∧ dcells dk L = dcells d L ∧ dk.fails = d.fails ∧ (1 ≤ dk.n ∧ dk.n ≤ 2048) ∧ 0 ≤ dk.ops ∧ Wf dk.fuse ∧ dk.down = d.down ∧ ∀ w' L', DAt w' g { (dk.forgot.plan [] 0) with down := false } L' N → DAt w' g (d.crash bl) L' N) := fun wr hsm =>
      ⟨{ d with sure := over d.sure (kept d.pend bl n) }, ⟨s0 + n, hsm, by omega⟩, rfl, rfl, hd.small, hd.opsn, hd.fusew, rfl, fun w' L' h => by unfold Dsk.crash; rw [HN.out]; exact h⟩
    have O0 := Off.refl (· = L.a) w
    have hbL := hd.lt (k := L.b) (Or.inr (Or.inr (Or.inl rfl)))
    have hfa := hd.fa
    have hbig := hd.big
    have hgl := hd.row.lt
    have hb64 : s0 + n < 1000000000000 := by omega
    have hn64 : (n : Int) < 9223372036854775807 := by omega
    clear hpend hp hd hs1 HN hc hne
    rcases hk with ⟨rfl, rfl⟩ | ⟨a, kcap, rfl, hka, hkc⟩
    · go_enter Try.func27, Try.ntmps27
      go_wp2
      go_loopw [13] (fun c wr => ∃ j : Nat, c = .int .i64 j ∧ j ≤ n ∧ SMap wr L.a (s0 + j) (over d.sure (kept d.pend bl j)) ∧ Off (· = L.a) w wr) (fun c _ => n - (intOf c).toNat)
      case atStart => exact ⟨0, rfl, Nat.zero_le _, hs0, O0⟩
      case round =>
        clear O0 hs0
        obtain ⟨j, rfl, hj, Sk, Ok⟩ := hrel
        by_cases hjn : j < n
        · have hr := HR.out wr Ok j hjn
          obtain ⟨q1, q2, s, hq, wq1, wq2, hsec⟩ := HQ.out j hjn
          rw [hq] at hr
          have hst := HSTEP.out j
          rw [hq] at hst
          have hsl := hsec.1
          have hpl : Hid ((pcell (q1, q2, s)).length = 66) := pcell_length _ _ _ hsl
          have hj64 : (j : Int) < 9223372036854775807 := by omega
          have y0 : Row (wr.alloc (.cells (wcells 0 0 (zs 64)) 136)) wr.heap.size (wcells 0 0 (zs 64)) 136 := Row.new _ _ _
          have rY3 : Row ((wr.alloc (.cells (wcells 0 0 (zs 64)) 136)).setRow wr.heap.size (wcells q1 q2 s)) wr.heap.size (wcells q1 q2 s) 136 := y0.set _
          have hal := Sk.lt
          have O3 : Off (· = L.a) w ((wr.alloc (.cells (wcells 0 0 (zs 64)) 136)).setRow wr.heap.size (wcells q1 q2 s)) :=
            (Ok.trans (Off.of_below (F := fun _ => False) ((Below.refl _ _).alloc (Nat.le_refl _) _)) (fun _ h => h.elim)).trans (Off.of_setRow (F := (· = wr.heap.size)) _ _ _ rfl) (fun j hj => Or.inr (by have := Ok.size; omega))
          have S3 : SMap ((wr.alloc (.cells (wcells 0 0 (zs 64)) 136)).setRow wr.heap.size (wcells q1 q2 s)) L.a (s0 + j) (over d.sure (kept d.pend bl j)) := Sk.kept (by rw [setRow_other _ _ _ _ (by omega), Below.heap_alloc _ _ _ hal])
          obtain ⟨row3, _⟩ := HKEEP.out _ O3
          · have hbf : bl.getD j false = false := by
              simp only [List.getD]; rw [List.getElem?_eq_none (by have := HNK.out; omega)]; rfl
            rw [hbf, if_neg (by decide)] at hst
            have hj0 : ¬ (j : Int) < 0 := by omega
            go_wp2_with (first
              | (refine wpList_load_mid rfl 136 (.tmp 16) rfl r (j * 66) (by rfl) (pcell (q1, q2, s)) _ hr Try.underlying136 rfl (by rw [hpl.out]; exact size136) ?_)
              | (refine store_cells rfl 136 (.tmp 5) (.tmp 17) rfl wr.heap.size (wcells q1 q2 s) rfl rfl 136 _ y0 66 size136 (wcells_size _ _ _ (zs_length 64)) (wcells_size _ _ _ hsl) (wcells_one _ _ _) ?_))
            go_roundw
            case rel => exact ⟨j + 1, by go_num, by omega, by rw [hst]; exact (S3.mono (by omega)), O3⟩
            case measure => simp [intOf]; omega
        · have e : j = n := by omega
          subst e
          obtain ⟨row3, fl3⟩ := HKEEP.out _ Ok
          obtain ⟨dk, sk, ed, ef, bd, bo, bf, bdn, HC⟩ := HEND.out wr Sk
          have rk : Row wr g (dcells dk L) 88 := by rw [ed]; exact row3
          have fk : FMap wr L.f dk.fails := by rw [ef]; exact fl3
          have HC' := show Hid _ from HC
          clear HC ed ef
          go_wp2_with (first
            | (go_at_call 60; refine (forget_any (L := L) (d := dk) (N := N) rk sk fk hfa hbig bd bo bf).mono ?_; rintro e w5 ⟨rfl, D5, O5⟩)
            | (go_at_call 24; refine (plan_any D5 (.slice none 0 0) [] (Or.inl ⟨rfl, rfl⟩) (fun a n c e => (by cases e)) (fun z hz => (by cases hz)) (by simp) 0 (wf_of (by omega) (by omega))).mono ?_; rintro e w6 ⟨rfl, m6, hm6, D6, O6⟩
               have c46 := row_at D6.row 4 (.bool dk.down) rfl
               have f46 := row_frozen D6.row 4
               have D7 := D6.setDown false))
          have hp := HPP.out _ _ (HC'.out _ _ D7) (crash_off Ok O5 O6) (crash_foot hbL Ok.size O5.size hm6)
          first
            | (go_end0; exact ⟨rfl, hp⟩)
            | (refine bodyPost_ret (results_none rfl _ _ _) rfl ?_; exact ⟨rfl, hp⟩)
    · go_enter Try.func27, Try.ntmps27
      go_wp2
      go_loopw [13] (fun c wr => ∃ j : Nat, c = .int .i64 j ∧ j ≤ n ∧ SMap wr L.a (s0 + j) (over d.sure (kept d.pend bl j)) ∧ Off (· = L.a) w wr) (fun c _ => n - (intOf c).toNat)
      case atStart => exact ⟨0, rfl, Nat.zero_le _, hs0, O0⟩
      case round =>
        clear O0 hs0
        obtain ⟨j, rfl, hj, Sk, Ok⟩ := hrel
        by_cases hjn : j < n
        · have hr := HR.out wr Ok j hjn
          obtain ⟨q1, q2, s, hq, wq1, wq2, hsec⟩ := HQ.out j hjn
          rw [hq] at hr
          have hst := HSTEP.out j
          rw [hq] at hst
          have hsl := hsec.1
          have hpl : Hid ((pcell (q1, q2, s)).length = 66) := pcell_length _ _ _ hsl
          have hj64 : (j : Int) < 9223372036854775807 := by omega
          have y0 : Row (wr.alloc (.cells (wcells 0 0 (zs 64)) 136)) wr.heap.size (wcells 0 0 (zs 64)) 136 := Row.new _ _ _
          have rY3 : Row ((wr.alloc (.cells (wcells 0 0 (zs 64)) 136)).setRow wr.heap.size (wcells q1 q2 s)) wr.heap.size (wcells q1 q2 s) 136 := y0.set _
          have hal := Sk.lt
          have O3 : Off (· = L.a) w ((wr.alloc (.cells (wcells 0 0 (zs 64)) 136)).setRow wr.heap.size (wcells q1 q2 s)) :=
            (Ok.trans (Off.of_below (F := fun _ => False) ((Below.refl _ _).alloc (Nat.le_refl _) _)) (fun _ h => h.elim)).trans (Off.of_setRow (F := (· = wr.heap.size)) _ _ _ rfl) (fun j hj => Or.inr (by have := Ok.size; omega))
          have S3 : SMap ((wr.alloc (.cells (wcells 0 0 (zs 64)) 136)).setRow wr.heap.size (wcells q1 q2 s)) L.a (s0 + j) (over d.sure (kept d.pend bl j)) := Sk.kept (by rw [setRow_other _ _ _ _ (by omega), Below.heap_alloc _ _ _ hal])
          obtain ⟨row3, _⟩ := HKEEP.out _ O3
          by_cases hjk : j < nk
          · have hcel := cell_off (hkc j hjk) O3 (by rw [add_block]; exact hka)
            have hjk' : (j : Int) < (nk : Int) := by omega
            by_cases hb : bl.getD j false = true
            · rw [if_pos hb] at hst
              rw [hb] at hcel
              go_wp2_with (first
                | (refine wpList_load_mid rfl 136 (.tmp 16) rfl r (j * 66) (by rfl) (pcell (q1, q2, s)) _ hr Try.underlying136 rfl (by rw [hpl.out]; exact size136) ?_)
                | (refine store_cells rfl 136 (.tmp 5) (.tmp 17) rfl wr.heap.size (wcells q1 q2 s) rfl rfl 136 _ y0 66 size136 (wcells_size _ _ _ (zs_length 64)) (wcells_size _ _ _ hsl) (wcells_one _ _ _) ?_))
              generalize (wr.alloc (.cells (wcells 0 0 (zs 64)) 136)).setRow wr.heap.size (wcells q1 q2 s) = w3 at rY3 O3 S3 row3 hcel ⊢
              have hYL : wr.heap.size ≠ L.a := by omega
              generalize wr.heap.size = Y at rY3 hYL ⊢
              obtain ⟨w4, hrun4, m4, g4, z4⟩ := (show SMap w3.drew L.a (s0 + j) (over d.sure (kept d.pend bl j)) from S3).store (by unfold maxLen; omega) wq1 wq2 hsec
              have g4' : w3.grownBy w4 (some L.a) := ⟨g4.os, g4.tape, g4.output, g4.size, g4.block⟩
              have O4 : Off (· = L.a) w w4 := O3.trans (Off.of_grown (F := (· = L.a)) g4' (fun q hq => by cases hq; rfl)) (fun j hj => Or.inl hj)
              have row4 : Row w4 g (dcells d L) 88 := (HKEEP.out _ O4).1
              have y4 : Row w4 Y (wcells q1 q2 s) 136 := by
                have := rY3
                unfold Row at this ⊢
                rw [g4'.block Y rY3.lt (fun q => hYL (by cases q; rfl))]; exact this
              have m4' : SMap w4 L.a (s0 + (j + 1)) (over d.sure (kept d.pend bl (j + 1))) := by
                rw [hst, over_append]; exact m4
              clear z4 g4 m4 hst
              unfold pk at hrun4
              refine wp_region_held_drew (S := fun w' => Row w' g (dcells d L) 88 ∧ Row w' Y (wcells q1 q2 s) 136) (by kernel_rfl) ⟨row3, rY3⟩ fun hS => ?_
              refine tkI (i := 0) (v := .pointer (some ⟨g, 0, none⟩)) rfl (by kernel_rfl) (Or.inl ⟨by rfl, fun w _ => by rfl⟩) hS ?_
              try simp only [Act.put, nz]
              refine tkI (i := 1) (v := .pointer (some ⟨g, 0, none⟩)) rfl (by kernel_rfl) (Or.inl ⟨by rfl, fun w _ => by go_simp⟩) hS ?_
              try simp only [Act.put, nz]
              refine tkI (i := 2) (v := .pointer (some ⟨g, 1, none⟩)) rfl (by kernel_rfl) (Or.inl ⟨by rfl, fun w _ => by go_simp⟩) hS ?_
              try simp only [Act.put, nz]
              refine tkI (i := 3) (v := .map (some L.a)) rfl (by kernel_rfl) (Or.inl ⟨by rfl, fun w h => by have c := (row_at h.1 1 (.map (some L.a)) rfl); go_simp⟩) hS ?_
              try simp only [Act.put, nz]
              refine tkI (i := 4) (v := .pointer (some ⟨Y, 0, none⟩)) rfl (by kernel_rfl) (Or.inl ⟨by rfl, fun w _ => by go_simp⟩) hS ?_
              try simp only [Act.put, nz]
              refine tkI (i := 5) (v := .agg #[.int .i64 q1, .int .i64 q2]) rfl (by kernel_rfl) (yieldsIf_load_mid (by rfl) 90 (.tmp 32) rfl Y 0 rfl [.int .i64 q1, .int .i64 q2] _ (fun w h => range_key h.2) Try.underlying90 rfl size90) hS ?_
              try simp only [Act.put, nz]
              refine tkI (i := 6) (v := .pointer (some ⟨Y, 2, none⟩)) rfl (by kernel_rfl) (Or.inl ⟨by rfl, fun w _ => by go_simp⟩) hS ?_
              try simp only [Act.put, nz]
              refine tkI (i := 7) (v := .agg (bs s)) rfl (by kernel_rfl) (yieldsIf_load_mid (by rfl) 79 (.tmp 34) rfl Y 2 rfl (s.map (Value.int .u8)) _ (fun w h => range_sec h.2) Try.underlying79 rfl (by rw [List.length_map, hsl]; exact size79)) hS ?_
              try simp only [Act.put, nz]
              refine wpAnyH_ready (rs := [8]) (by kernel_rfl) (by simp) ?_
              refine AllReadyH.cons rfl (fun K hK => step_of rfl (wp_update 84 (.tmp 31) (.tmp 33) (.tmp 35) rfl _ _ _ rfl rfl rfl w4 hrun4 (hK.out _ _ ⟨row4, y4⟩ fun hS => ?_))) AllReadyH.nil
              try simp only [Act.put, nz]
              refine wpAnyH_done (by kernel_rfl) ?_ _
              go_wp2
              go_roundw
              case rel => exact ⟨j + 1, by go_num, by omega, m4', O4⟩
              case measure => simp [intOf]; omega
            · have hb' : bl.getD j false = false := by simpa using hb
              rw [if_neg hb] at hst
              rw [hb'] at hcel
              go_wp2_with (first
                | (refine wpList_load_mid rfl 136 (.tmp 16) rfl r (j * 66) (by rfl) (pcell (q1, q2, s)) _ hr Try.underlying136 rfl (by rw [hpl.out]; exact size136) ?_)
                | (refine store_cells rfl 136 (.tmp 5) (.tmp 17) rfl wr.heap.size (wcells q1 q2 s) rfl rfl 136 _ y0 66 size136 (wcells_size _ _ _ (zs_length 64)) (wcells_size _ _ _ hsl) (wcells_one _ _ _) ?_))
              go_roundw
              case rel => exact ⟨j + 1, by go_num, by omega, by rw [hst]; exact (S3.mono (by omega)), O3⟩
              case measure => simp [intOf]; omega
          · have hbf : bl.getD j false = false := by
              simp only [List.getD]; rw [List.getElem?_eq_none (by have := HNK.out; omega)]; rfl
            rw [hbf, if_neg (by decide)] at hst
            have hjk' : ¬ (j : Int) < (nk : Int) := by omega
            go_wp2_with (first
              | (refine wpList_load_mid rfl 136 (.tmp 16) rfl r (j * 66) (by rfl) (pcell (q1, q2, s)) _ hr Try.underlying136 rfl (by rw [hpl.out]; exact size136) ?_)
              | (refine store_cells rfl 136 (.tmp 5) (.tmp 17) rfl wr.heap.size (wcells q1 q2 s) rfl rfl 136 _ y0 66 size136 (wcells_size _ _ _ (zs_length 64)) (wcells_size _ _ _ hsl) (wcells_one _ _ _) ?_))
            go_roundw
            case rel => exact ⟨j + 1, by go_num, by omega, by rw [hst]; exact (S3.mono (by omega)), O3⟩
            case measure => simp [intOf]; omega
        · have e : j = n := by omega
          subst e
          obtain ⟨row3, fl3⟩ := HKEEP.out _ Ok
          obtain ⟨dk, sk, ed, ef, bd, bo, bf, bdn, HC⟩ := HEND.out wr Sk
          have rk : Row wr g (dcells dk L) 88 := by rw [ed]; exact row3
          have fk : FMap wr L.f dk.fails := by rw [ef]; exact fl3
          have HC' := show Hid _ from HC
          clear HC ed ef
          go_wp2_with (first
            | (go_at_call 60; refine (forget_any (L := L) (d := dk) (N := N) rk sk fk hfa hbig bd bo bf).mono ?_; rintro e w5 ⟨rfl, D5, O5⟩)
            | (go_at_call 24; refine (plan_any D5 (.slice none 0 0) [] (Or.inl ⟨rfl, rfl⟩) (fun a n c e => (by cases e)) (fun z hz => (by cases hz)) (by simp) 0 (wf_of (by omega) (by omega))).mono ?_; rintro e w6 ⟨rfl, m6, hm6, D6, O6⟩
               have c46 := row_at D6.row 4 (.bool dk.down) rfl
               have f46 := row_frozen D6.row 4
               have D7 := D6.setDown false))
          have hp := HPP.out _ _ (HC'.out _ _ D7) (crash_off Ok O5 O6) (crash_foot hbL Ok.size O5.size hm6)
          first
            | (go_end0; exact ⟨rfl, hp⟩)
            | (refine bodyPost_ret (results_none rfl _ _ _) rfl ?_; exact ⟨rfl, hp⟩)
theorem SMap.congr {w : World} {a n : Nat} {f h : Secs} (hs : SMap w a n f) (e : ∀ b s, Wf b → Wf s → f b s = h b s) : SMap w a n h := by
  obtain ⟨D, hD, hf⟩ := hs
  exact ⟨D, hD, fun b s hb hw => by rw [← e b s hb hw]; exact hf b s hb hw⟩
theorem SMap.range {w : World} {a n : Nat} {f : Secs} (h : SMap w a n f) :
    ∃ w' cnt, (Instr.range 84 (.map (some a))).run Try.prog w = .ok (.pointer (some ⟨w.heap.size, 0, none⟩)) w' ∧ SRng w' a w.heap.size n f (fun b s => (f b s).isSome) cnt ∧ cnt ≤ n ∧ w.grownBy w' none ∧ w'.heap.size = w.heap.size + 1 := by
  obtain ⟨D, hD, hf⟩ := h
  obtain ⟨w', hrun, hr, hg, hs⟩ := hD.range law90 Try.underlying84
  refine ⟨w', _, hrun, ⟨D, _, hr, hf, fun b s hb hw => ?_⟩, hD.size_le, hg, hs⟩
  show _ = (f b s).isSome
  cases e : f b s with
  | none => rw [(hf b s hb hw).1 e]; rfl
  | some xs => rw [Maps.has_true_of_atKey ((hf b s hb hw).2 xs e).2]; rfl
theorem same_kl {b s b' s' : Int} (hb : Wf b) (hs : Wf s) (hb' : Wf b') (hs' : Wf s') : (kl b' s').sameKey (kl b s) = decide (b' = b ∧ s' = s) := by
  by_cases e : b' = b ∧ s' = s
  · obtain ⟨rfl, rfl⟩ := e
    rw [WideAt.sameKey_self (kl_key hb hs)]; simp
  · rw [decide_eq_false e]
    exact Maps.sameKey_ne (fun q => e (kl_inj hb' hs' hb hs q))
theorem SRng.next {w : World} {a r n : Nat} {f : Secs} {left : Int → Int → Bool} {cnt : Nat} (h : SRng w a r n f left cnt) :
    (cnt = 0 ∧ (∀ b s, Wf b → Wf s → left b s = false) ∧ ∀ ty, (Instr.next (.pointer (some ⟨r, 0, none⟩)) false ty).run Try.prog w = .ok (.tuple #[.bool false]) w) ∨
    ∃ b s xs w' cnt', Wf b ∧ Wf s ∧ Sec xs ∧ left b s = true ∧ f b s = some xs ∧ (∀ ty, (Instr.next (.pointer (some ⟨r, 0, none⟩)) false ty).run Try.prog w = .ok (.tuple #[.bool true, pk b s, .agg (bs xs)]) w') ∧
      SRng w' a r n f (fun b' s' => left b' s' && !decide (b' = b ∧ s' = s)) cnt' ∧ cnt' < cnt ∧ w.grownBy w' (some r) ∧ w'.heap.size = w.heap.size ∧ (Instr.entry (.pointer (some ⟨r, 0, none⟩))).run Try.prog w' = .ok (.tuple #[pk b s, .agg (bs xs)]) w' := by
  obtain ⟨D, lf, hr, hf, hl⟩ := h
  rcases hr.next law90 0 with ⟨h0, h1, _⟩ | ⟨key, v, k0, y, w', cnt', hkey, hlk, hv, hat, hrun, hrg, hlt, hgr, hsz, hen⟩
  · refine Or.inl ⟨h0, fun b s hb hs => by rw [← hl b s hb hs]; exact h1 _, fun ty => ?_⟩
    rcases hr.next law90 ty with ⟨_, _, hrun⟩ | ⟨_, _, _, _, _, cnt', _, _, _, _, _, _, hlt, _⟩
    · exact hrun
    · omega
  · obtain ⟨b, s, rfl, hb, hs, rfl⟩ := key_inv hkey
    obtain ⟨xs, hx, rfl, rfl⟩ := secR_inv hv
    refine Or.inr ⟨b, s, xs, w', cnt', hb, hs, hx, by rw [← hl b s hb hs]; exact hlk, ?_, fun ty => ?_, ⟨D, _, hrg, hf, fun b' s' hb' hs' => ?_⟩, hlt, hgr, hsz, hen⟩
    · cases e : f b s with
      | none =>
        have := (hf b s hb hs).1 e
        rw [Maps.has_true_of_atKey hat] at this; cases this
      | some ys =>
        have := ((hf b s hb hs).2 ys e).2 .nil
        rw [hat] at this
        cases this; rfl
    · exact hrun
    · rw [hl b' s' hb' hs', same_kl hb hs hb' hs']
def Dsk.synced (d : Dsk) : Dsk := { d with sure := over d.sure d.pend, pend := [] }
def sync (d : Dsk) : Int × Dsk := if d.down then (4, d) else if (count d).1 = 0 then (0, (count d).2.synced) else count d
theorem range_two {w : World} {g : Nat} {v0 v1 : Value} {t : TypeId} (h : Row w g #[v0, v1] t) : w.rangeAt g 0 [v0, v1] := by
  intro j v hv
  rw [cell_of_row w g _ _ _ _ h, Nat.zero_add]
  simpa using hv
theorem zero90 (w : World) : (zeroValue 90).run Try.prog w = .ok (.agg #[.int .i64 0, .int .i64 0]) w := (zero_of_info (P := Try.prog) (t := 90) (v := .agg #[.int .i64 0, .int .i64 0]) (n := 2) (by kernel_rfl)).1 w
def now (f o : Secs) (left : Int → Int → Bool) : Secs := fun b s => if left b s = true then f b s else o b s
theorem now_start (f : Secs) (ps : List (Int × Int × List Int)) (b s : Int) : f b s = now f (over f ps) (fun b s => (over (fun _ _ => none) ps b s).isSome) b s := by
  unfold now
  by_cases e : (over (fun _ _ => none) ps b s).isSome = true
  · rw [if_pos e]
  · rw [if_neg e, over_or]
    cases q : over (fun _ _ => none) ps b s with
    | none => rfl
    | some x => rw [q] at e; simp at e
theorem now_step (f : Secs) (ps : List (Int × Int × List Int)) (left : Int → Int → Bool) (b s : Int) (xs : List Int) (hx : over (fun _ _ => none) ps b s = some xs) : (now f (over f ps) left).put b s xs = now f (over f ps) (fun b' s' => left b' s' && !decide (b' = b ∧ s' = s)) := by
  funext b' s'
  unfold Secs.put now
  by_cases e : b' = b ∧ s' = s
  · obtain ⟨rfl, rfl⟩ := e
    rw [if_pos ⟨rfl, rfl⟩, if_neg (by simp), over_or, hx]; rfl
  · rw [if_neg e]
    simp [e]
theorem now_end (f o : Secs) (left : Int → Int → Bool) (b s : Int) (h : left b s = false) : now f o left b s = o b s := by
  unfold now; rw [if_neg (by rw [h]; decide)]
set_option maxHeartbeats 2000000 in
set_option maxRecDepth 20000 in
theorem sync_in {w : World} {g : Nat} {d0 : Dsk} {L : Loc} {N : Nat} (h0 : DAt w g d0 L N) (ho : d0.ops < 9223372036854775806) (hdn : d0.down = false) (hc0 : (count d0).1 = 0) :
    Calls Try.prog 89 #[.pointer (some ⟨g, 0, none⟩)] w fun e w' => e = .returned (.int .i64 0) ∧ Crashed w g (count d0).2.synced L N w' := by
  have hcount := count_any h0 ho
  rw [hc0] at hcount
  generalize (count d0).2 = d at hcount ⊢
  have HPP : Hid (∀ L' w', DAt w' g d.synced L' N → Off (foot g L) w w' → (∀ j, foot g L' j → foot g L j ∨ w.heap.size ≤ j) → Crashed w g d.synced L N w') := fun L' w' a b c => ⟨L', a, b, c⟩
  generalize Crashed w g d.synced L N = PP at HPP ⊢
  have hz71 := zero79
  have hz74 := zero90
  have hbw := h0.fresh.lt
  go_enter Try.func89, Try.ntmps89
  go_wp2_with (first
    | (go_at_call 90; refine (down_any h0).mono ?_; rw [hdn]; rintro e w' ⟨rfl, rfl⟩)
    | (go_at_call 91; refine hcount.mono ?_; rintro e w1 ⟨rfl, D1, O1⟩
       have c2 := row_at D1.row 2 (.map (some L.b)) rfl
       obtain ⟨wi, cnt0, hrun0, R0, hcn, gi, si⟩ := D1.fresh.range))
  obtain ⟨s0, hs0, hs1⟩ := D1.sure
  have hag := D1.ag
  have hab := D1.ab
  have Oi : Off (· = L.a) w1 wi := Off.of_grown gi (fun k hk => by cases hk)
  have Si : SMap wi L.a (s0 + (d.pend.length - cnt0)) (now d.sure (over d.sure d.pend) (fun b s => (over (fun _ _ => none) d.pend b s).isSome)) :=
    (hs0.kept (gi.block _ hs0.lt (by simp))).mono (by omega) |>.congr (fun b s _ _ => now_start d.sure d.pend b s)
  have HKEEP : Hid (∀ wr, Off (· = L.a) w1 wr → Row wr g (dcells d L) 88 ∧ FMap wr L.f d.fails) := fun wr o => ⟨D1.row.off o hag.symm, D1.fails.off o (fun m e q => D1.fa (q ▸ e))⟩
  have HEND : Hid (∀ wr, SMap wr L.a (s0 + d.pend.length) (over d.sure d.pend) → ∃ dk : Dsk, (∃ s, SMap wr L.a s dk.sure ∧ s ≤ N) ∧ dcells dk L = dcells d L ∧ dk.fails = d.fails ∧ (1 ≤ dk.n ∧ dk.n ≤ 2048) ∧ 0 ≤ dk.ops ∧ Wf dk.fuse ∧ ∀ w' L', DAt w' g dk.forgot L' N → DAt w' g d.synced L' N) := fun wr hsm =>
    ⟨{ d with sure := over d.sure d.pend }, ⟨_, hsm, by omega⟩, rfl, rfl, D1.small, D1.opsn, D1.fusew, fun w' L' h => h⟩
  have hfa := D1.fa
  have hbig := D1.big
  have hbl := D1.fresh.lt
  have hgl := D1.row.lt
  obtain ⟨f, HF⟩ : ∃ f : Secs, Hid (over (fun _ _ => none) d.pend = f) := ⟨_, rfl⟩
  have HSTEP : Hid (∀ left b s xs, f b s = some xs → (now d.sure (over d.sure d.pend) left).put b s xs = now d.sure (over d.sure d.pend) (fun b' s' => left b' s' && !decide (b' = b ∧ s' = s))) := fun left b s xs hx => now_step d.sure d.pend left b s xs (by rw [HF.out]; exact hx)
  rw [HF.out] at R0 Si
  obtain ⟨n, HN⟩ : ∃ n, Hid (d.pend.length = n) := ⟨_, rfl⟩
  rw [HN.out] at R0 Si HEND hcn hs1
  obtain ⟨r, HR⟩ : ∃ r, Hid (w1.heap.size = r) := ⟨_, rfl⟩
  rw [HR.out] at R0 hbl hgl ⊢
  have hrl : ∀ j, j < r → j < w1.heap.size := fun j hj => by rw [HR.out]; exact hj
  have HRL := show Hid _ from hrl
  clear hrl D1 hs0 gi si hrun0 hcount h0 c2
  go_loopw [18] (fun _ wr => ∃ (left : Int → Int → Bool) (cnt : Nat), SRng wr L.b r n f left cnt ∧ cnt ≤ n ∧ SMap wr L.a (s0 + (n - cnt)) (now d.sure (over d.sure d.pend) left) ∧ Off (· = L.a) w1 wr) (fun _ wr => wr.rangeLeft L.b r)
  case atStart => exact ⟨_, cnt0, R0, hcn, Si, Oi⟩
  case round =>
    clear R0 Si Oi hcn
    obtain ⟨left, cnt, Rk, hcn, Sk, Ok⟩ := hrel
    have hle := Rk.left_eq
    rcases Rk.next with ⟨c0, hl0, hnx⟩ | ⟨b, s, xs, w', cnt', wb, ws, hsec, hlf, hfx, hnx, Rk', hlt, gk, sk', hen⟩
    · subst c0
      have Se : SMap wr L.a (s0 + n) (over d.sure d.pend) := (Sk.mono (by omega)).congr (fun b s hb hs => now_end _ _ _ b s (hl0 b s hb hs))
      obtain ⟨row3, fl3⟩ := HKEEP.out _ Ok
      obtain ⟨dk, sk, ed, ef, bd, bo, bf, HC⟩ := HEND.out wr Se
      have rk : Row wr g (dcells dk L) 88 := by rw [ed]; exact row3
      have fk : FMap wr L.f dk.fails := by rw [ef]; exact fl3
      have HC' := show Hid _ from HC
      clear HC ed ef hl0 Sk Rk Se hle
      go_wp2_with (first
        | (go_at_call 60; refine (forget_any (L := L) (d := dk) (N := N) rk sk fk hfa hbig bd bo bf).mono ?_; rintro e w5 ⟨rfl, D5, O5⟩))
      have hp := HPP.out _ _ (HC'.out _ _ D5) (((O1.mono (F' := foot g L) (fun j hj => Or.inl (Or.inl hj))).trans Ok (fun j hj => Or.inl (Or.inr (Or.inl hj)))).trans O5 (fun j hj => Or.inl (Or.inl hj))) (by
        rintro j (rfl | rfl | rfl | e | e)
        · exact Or.inl (Or.inl rfl)
        · exact Or.inl (Or.inr (Or.inl rfl))
        · exact Or.inr (Nat.le_trans O1.size Ok.size)
        · simp [Loc.forgot, Value.ownBlock] at e
        · exact Or.inl (Or.inr (Or.inr (Or.inr (Or.inr e)))))
      go_ret
      exact ⟨rfl, hp⟩
    · have hsl := hsec.1
      have hrr := Rk'.lt
      have hne := Rk'.ne
      have hal := Sk.lt
      have hala : L.a ≠ r := fun q => by
        obtain ⟨es, c, hb⟩ := Sk.block
        obtain ⟨D, lf, ⟨es', clock, since, seen, c0, _, _, _, _, hri, _⟩, _⟩ := Rk
        rw [q, hri] at hb; cases hb
      have HALA1 : some L.a ≠ some r := fun q => hala (Option.some.inj q)
      have HALA2 : some r ≠ some L.a := fun q => hala (Option.some.inj q).symm
      have Ok' : Off (· = L.a) w1 w' := Ok.trans (Off.of_grown (F := (· = r)) gk (fun q hq => by cases hq; rfl)) (fun j hj => Or.inr (by rw [HR.out]; omega))
      have Sk' : SMap w' L.a (s0 + (n - cnt)) (now d.sure (over d.sure d.pend) left) := Sk.kept (gk.block _ hal HALA1)
      have hal' := Sk'.lt
      have hbl' := Rk'.map.lt
      have a0 : Row ((w'.alloc (.cells #[.int .i64 b, .int .i64 s] 90)).alloc (.cells (bs (zs 64)) 79)) w'.heap.size #[.int .i64 b, .int .i64 s] 90 := (Row.new _ _ _).alloc _
      have y0 : Row ((w'.alloc (.cells #[.int .i64 b, .int .i64 s] 90)).alloc (.cells (bs (zs 64)) 79)) (w'.heap.size + 1) (bs (zs 64)) 79 := by
        have := Row.new (w'.alloc (.cells #[.int .i64 b, .int .i64 s] 90)) (bs (zs 64)) 79
        have e : (w'.alloc (.cells #[.int .i64 b, .int .i64 s] 90)).heap.size = w'.heap.size + 1 := by simp
        rw [e] at this
        exact this
      have a3 : Row (((w'.alloc (.cells #[.int .i64 b, .int .i64 s] 90)).alloc (.cells (bs (zs 64)) 79)).setRow (w'.heap.size + 1) (bs xs)) w'.heap.size #[.int .i64 b, .int .i64 s] 90 := a0.other (by omega) _
      have y3 : Row (((w'.alloc (.cells #[.int .i64 b, .int .i64 s] 90)).alloc (.cells (bs (zs 64)) 79)).setRow (w'.heap.size + 1) (bs xs)) (w'.heap.size + 1) (bs xs) 79 := y0.set _
      have keep3 : Hid (∀ j, j < w'.heap.size → (((w'.alloc (.cells #[.int .i64 b, .int .i64 s] 90)).alloc (.cells (bs (zs 64)) 79)).setRow (w'.heap.size + 1) (bs xs)).heap[j]? = w'.heap[j]?) := fun j hj => by
        rw [setRow_other _ _ _ _ (by omega), Below.heap_alloc _ _ _ (by simp; omega), Below.heap_alloc _ _ _ hj]
      have B3 : Below w'.heap.size w' (((w'.alloc (.cells #[.int .i64 b, .int .i64 s] 90)).alloc (.cells (bs (zs 64)) 79)).setRow (w'.heap.size + 1) (bs xs)) := ⟨rfl, rfl, rfl, by simp [World.setRow]; omega, fun j hj => keep3.out j hj⟩
      unfold pk at hnx hen
      clear sk'
      go_wp2_with (first
        | (refine store_row rfl 79 (.tmp 5) (.tmp 22) rfl (w'.heap.size + 1) xs rfl rfl 79 _ y0 64 size79 (by rw [bs_size, zs_length]) hsl ?_))
      clear keep3
      generalize (((w'.alloc (.cells #[.int .i64 b, .int .i64 s] 90)).alloc (.cells (bs (zs 64)) 79)).setRow (w'.heap.size + 1) (bs xs)) = w3 at a3 y3 B3 ⊢
      have O3 : Off (· = L.a) w1 w3 := Ok'.trans (Off.of_below (F := fun _ => False) B3) (fun _ h => h.elim)
      have S3 : SMap w3 L.a (s0 + (n - cnt)) (now d.sure (over d.sure d.pend) left) := Sk'.kept (B3.block _ hal')
      have R3 : SRng w3 L.b r n f (fun b' s' => left b' s' && !decide (b' = b ∧ s' = s)) cnt' := Rk'.kept (B3.block _ hbl') (B3.block _ hrr)
      have row3 := (HKEEP.out _ O3).1
      have hA : w'.heap.size ≠ L.a := by omega
      have hA' : w'.heap.size ≠ L.b := by omega
      have hY : w'.heap.size + 1 ≠ L.a := by omega
      obtain ⟨w4, hrun4, m4, g4, z4⟩ := (show SMap w3.drew L.a (s0 + (n - cnt)) (now d.sure (over d.sure d.pend) left) from S3).store (by unfold maxLen; omega) wb ws hsec
      have g4' : w3.grownBy w4 (some L.a) := ⟨g4.os, g4.tape, g4.output, g4.size, g4.block⟩
      have O4 : Off (· = L.a) w1 w4 := O3.trans (Off.of_grown (F := (· = L.a)) g4' (fun q hq => by cases hq; rfl)) (fun j hj => Or.inl hj)
      have row4 : Row w4 g (dcells d L) 88 := (HKEEP.out _ O4).1
      have a4 : Row w4 w'.heap.size #[.int .i64 b, .int .i64 s] 90 := by
        have := a3
        unfold Row at this ⊢
        rw [g4'.block _ a3.lt (fun q => hA (Option.some.inj q))]; exact this
      have y4 : Row w4 (w'.heap.size + 1) (bs xs) 79 := by
        have := y3
        unfold Row at this ⊢
        rw [g4'.block _ y3.lt (fun q => hY (Option.some.inj q))]; exact this
      have m4' : SMap w4 L.a (s0 + (n - cnt')) (now d.sure (over d.sure d.pend) (fun b' s' => left b' s' && !decide (b' = b ∧ s' = s))) := by
        rw [← HSTEP.out left b s xs hfx]; exact m4.mono (by omega)
      have R4 : SRng w4 L.b r n f (fun b' s' => left b' s' && !decide (b' = b ∧ s' = s)) cnt' := R3.kept (g4'.block _ R3.map.lt (fun q => hab (Option.some.inj q).symm)) (g4'.block _ R3.lt HALA2)
      have hle4 := R4.left_eq
      clear z4 g4 m4 R3 S3 O3 B3 Sk' Ok' hnx hen Rk' Sk Ok gk a0 y0
      generalize w'.heap.size = A at a3 a4 y3 y4 ⊢
      generalize A + 1 = Y at y3 y4 ⊢
      unfold pk at hrun4
      refine wp_region_held_drew (S := fun w' => Row w' g (dcells d L) 88 ∧ Row w' A #[.int .i64 b, .int .i64 s] 90 ∧ Row w' Y (bs xs) 79) (by kernel_rfl) ⟨row3, a3, y3⟩ fun hS => ?_
      refine tkI (i := 0) (v := .pointer (some ⟨g, 0, none⟩)) rfl (by kernel_rfl) (Or.inl ⟨by rfl, fun w _ => by rfl⟩) hS ?_
      try simp only [Act.put, nz]
      refine tkI (i := 1) (v := .pointer (some ⟨g, 0, none⟩)) rfl (by kernel_rfl) (Or.inl ⟨by rfl, fun w _ => by go_simp⟩) hS ?_
      try simp only [Act.put, nz]
      refine tkI (i := 2) (v := .pointer (some ⟨g, 1, none⟩)) rfl (by kernel_rfl) (Or.inl ⟨by rfl, fun w _ => by go_simp⟩) hS ?_
      try simp only [Act.put, nz]
      refine tkI (i := 3) (v := .map (some L.a)) rfl (by kernel_rfl) (Or.inl ⟨by rfl, fun w h => by have c := (row_at h.1 1 (.map (some L.a)) rfl); go_simp⟩) hS ?_
      try simp only [Act.put, nz]
      refine tkI (i := 4) (v := .agg #[.int .i64 b, .int .i64 s]) rfl (by kernel_rfl) (yieldsIf_load_mid (by rfl) 90 (.tmp 4) rfl A 0 rfl [.int .i64 b, .int .i64 s] _ (fun w h => range_two h.2.1) Try.underlying90 rfl size90) hS ?_
      try simp only [Act.put, nz]
      refine tkI (i := 5) (v := .agg (bs xs)) rfl (by kernel_rfl) (yields_row (by rfl) 79 (.tmp 5) rfl Y rfl 79 (bs xs) (fun w h => h.2.2) 64 5 Try.underlying79 size79 (by rw [bs_size, hsl])) hS ?_
      try simp only [Act.put, nz]
      refine wpAnyH_ready (rs := [6]) (by kernel_rfl) (by simp) ?_
      refine AllReadyH.cons rfl (fun K hK => step_of rfl (wp_update 84 (.tmp 26) (.tmp 27) (.tmp 28) rfl _ _ _ rfl rfl rfl w4 hrun4 (hK.out _ _ ⟨row4, a4, y4⟩ fun hS => ?_))) AllReadyH.nil
      try simp only [Act.put, nz]
      refine wpAnyH_done (by kernel_rfl) ?_ _
      go_wp2
      go_roundw
      case rel => exact ⟨_, cnt', R4, by omega, m4', O4⟩
      case measure => rw [hle4, hle]; exact hlt
theorem DAt.grow {w : World} {g : Nat} {d : Dsk} {L : Loc} {N M : Nat} (h : DAt w g d L N) (hm : N ≤ M) (hM : M < 1000000000000) : DAt w g d L M :=
  { h with
    sure := by obtain ⟨s, hs, hle⟩ := h.sure; exact ⟨s, hs, by omega⟩
    big := hM }
theorem sync_any {w : World} {g : Nat} {d : Dsk} {L : Loc} {N : Nat} (h : DAt w g d L N) (ho : d.ops < 9223372036854775806) :
    Calls Try.prog 89 #[.pointer (some ⟨g, 0, none⟩)] w fun e w' => e = .returned (.int .i64 (sync d).1) ∧ Crashed w g (sync d).2 L N w' := by
  by_cases hd : d.down = true
  · have e : sync d = (4, d) := by unfold sync; rw [if_pos hd]
    rw [e]
    have hp : Crashed w g d L N w := ⟨L, h, Off.refl _ _, fun j hj => Or.inl hj⟩
    generalize Crashed w g d L N = PP at hp ⊢
    go_enter Try.func89, Try.ntmps89
    go_wp2_with (go_at_call 90; refine (down_any h).mono ?_; rw [hd]; rintro e w' ⟨rfl, rfl⟩)
    go_ret
    exact ⟨rfl, hp⟩
  · have hd' : d.down = false := by simpa using hd
    by_cases hc : (count d).1 = 0
    · have e : sync d = (0, (count d).2.synced) := by unfold sync; rw [if_neg hd, if_pos hc]
      rw [e]
      exact sync_in h ho hd' hc
    · have e : sync d = count d := by unfold sync; rw [if_neg hd, if_neg hc]
      rw [e]
      have hcount := count_any h ho
      have HPP : Hid (∀ w', DAt w' g (count d).2 L N → Off (· = g) w w' → Crashed w g (count d).2 L N w') := fun w' a b => ⟨L, a, b.mono (fun j hj => Or.inl (Or.inl hj)), fun j hj => Or.inl hj⟩
      generalize Crashed w g (count d).2 L N = PP at HPP ⊢
      generalize (count d).2 = d2 at hcount HPP
      generalize (count d).1 = E at hcount hc ⊢
      go_enter Try.func89, Try.ntmps89
      go_wp2_with (first
        | (go_at_call 90; refine (down_any h).mono ?_; rw [hd']; rintro e w' ⟨rfl, rfl⟩)
        | (go_at_call 91; refine hcount.mono ?_; rintro e w1 ⟨rfl, D1, O1⟩))
      go_ret
      exact ⟨rfl, HPP.out _ D1 O1⟩
end Go.Proofs.Ytehogiondcpbcaa
